/-
  engramlaw9's takes.
-/
import Derived.Test.YtafgpmempgoikaaZNestWithin1
import Derived.Test.YtafgpmempgoikaaZNestWithin2
import Derived.Test.YtafgpmempgoikaaZNestWithin3
import Derived.Test.YtafgpmempgoikaaZNestWithin4
import Derived.Test.YtafgpmempgoikaaZNestWithin5
import Derived.Test.YtafgpmempgoikaaZNestWithin6
import Derived.Test.YtafgpmempgoikaaFrZ
import Derived.Test.YtafgpmempgoikaaCTakesZ
import Derived.Test.YtafgpmempgoikaaWkMemZ
import Derived.Test.YtafgpmempgoikaaWkHalveZ
import Derived.Test.YtafgpmempgoikaaWkEndZ
import Derived.Test.YtafgpmempgoikaaWkLeaveZ
import Derived.Test.YtafgpmempgoikaaWkTurnZ
import Derived.Test.YtafgpmempgoikaaWkStepZ
import Derived.Test.YtafgpmempgoikaaWkPureZ
import Derived.Test.YtafgpmempgoikaaGl1Z
import Derived.Test.YtafgpmempgoikaaGl2Z
import Derived.Test.YtafgpmempgoikaaGlPureZ
import Derived.Test.YtafgpmempgoikaaGlMemZ
import Derived.Test.YtafgpmempgoikaaGlTakeZ
import Derived.Test.YtafgpmempgoikaaGlTokZ
import Derived.Test.YtafgpmempgoikaaWkFuncZ
import Derived.Test.YtafgpmempgoikaaOddZ
import Derived.Test.YtafgpmempgoikaaOddsZ
import Derived.Test.YtafgpmempgoikaaChkSameZ
namespace Go.Proofs.Ytafgpmempgoikaa
open Go.RowKit
section
variable {w : World} {A : Option Addr} {n c : Nat} {l : List FnV} {pages most : Int}
set_option maxHeartbeats 4000000 in
set_option maxRecDepth 100000 in
theorem ctk_any (hF : Fnr w A n c l) (t : TkV) : Calls Try.prog 21 #[unitV pages most A n c, .agg (tkC t).toArray] w (LawPost w) := by
  unfold unitV
  obtain ⟨r, tn, nm⟩ := t
  simp only [tkC]
  have H := Lib.hid hF
  clear hF
  go_enter Try.func21, Try.ntmps21
  go_upto_region 1 with fail
  have hN := Whole.new w 26 [.int .i64 pages, .int .i64 most, .slice A n c]
  have hal : Chg [] w (w.alloc (.cells #[.int .i64 pages, .int .i64 most, .slice A n c] 26)) := (Chg.refl [] w).alloc _
  have hsz : (w.alloc (.cells #[.int .i64 pages, .int .i64 most, .slice A n c] 26)).heap.size = w.heap.size + 1 := Array.size_push _
  obtain ⟨w1, hw1⟩ : ∃ w1, w1 = w.alloc (.cells #[.int .i64 pages, .int .i64 most, .slice A n c] 26) := ⟨_, rfl⟩
  rw [← hw1] at hN hal hsz ⊢
  have hN2 := Whole.new w1 42 [.int .i32 r, .int .i64 tn, .int .i32 nm]
  have hal2 : Chg [] w1 (w1.alloc (.cells #[.int .i32 r, .int .i64 tn, .int .i32 nm] 42)) := (Chg.refl [] w1).alloc _
  rw [hsz] at hN2
  have hU2 := hN.keep hal2
  have hc := hal.trans hal2
  generalize w1.alloc (.cells #[.int .i32 r, .int .i64 tn, .int .i32 nm] 42) = w2 at hN2 hU2 hc ⊢
  have HF2 := Lib.hid (H.out.keep hc)
  generalize w.heap.size = g at hU2 hN2 ⊢
  have HU2 := Lib.hid hU2
  have HT2 := Lib.hid hN2
  have HC2 := Lib.hid hc
  clear hN hal hsz hw1 hN2 hal2 hU2 hc
  have t0 := HT2.out.cell 0
  have t1 := HT2.out.cell 1
  have t2 := HT2.out.cell 2
  have u0 := HU2.out.cell 0
  have u1 := HU2.out.cell 1
  have u2 := HU2.out.cell 2
  obtain ⟨T, hT⟩ : ∃ T, T = rTakes l r nm := ⟨_, rfl⟩
  have HT := Lib.hid hT
  clear hT
  go_wp2_with fail
  refine (ctakes_any HF2.out ⟨r, tn, nm⟩).mono ?_
  rw [← HT.out]
  obtain ⟨p, q, ok⟩ := T
  rintro e w3 ⟨rfl, hc3⟩
  have HT3 := Lib.hid (HT2.out.keep hc3)
  have HU3 := Lib.hid (HU2.out.keep hc3)
  have HF3 := Lib.hid (HF2.out.keep hc3)
  have HC3 := Lib.hid (HC2.out.new hc3)
  clear hc3 t0 t1 t2 u0 u1 u2
  have t0 := HT3.out.cell 0
  have t1 := HT3.out.cell 1
  have t2 := HT3.out.cell 2
  have u0 := HU3.out.cell 0
  have u1 := HU3.out.cell 1
  have u2 := HU3.out.cell 2
  go_wp2_with fail
  refine (takes_any HF3.out ⟨r, tn, nm⟩).mono ?_
  rw [← HT.out]
  rintro e w4 ⟨rfl, hc4⟩
  have HT4 := Lib.hid (HT3.out.keep hc4)
  have HU4 := Lib.hid (HU3.out.keep hc4)
  have HF4 := Lib.hid (HF3.out.keep hc4)
  have HC4 := Lib.hid (HC3.out.new hc4)
  clear hc4 t0 t1 t2 u0 u1 u2
  have t2 := HT4.out.cell 2
  have u0 := HU4.out.cell 0
  have u1 := HU4.out.cell 1
  have u2 := HU4.out.cell 2
  go_upto_region 3 with fail
  have HDR := Lib.hid ((Chg.refl [] w4).drew)
  have HF1 := Lib.hid (fun (V : World) (hV : Chg [] w4 V) => show Calls Try.prog 40 #[unitV pages most A n c, .int .i32 nm] V (FindPost (findI l nm) V) from cfind_any (HF4.out.keep hV) nm)
  have HF5 := Lib.hid (fun (V : World) (hV : Chg [] w4 V) => show Calls Try.prog 41 #[unitV pages most A n c, .int .i32 nm] V (FindPost (findI l nm) V) from find_any (HF4.out.keep hV) nm)
  unfold unitV at HF1 HF5
  generalize findI l nm = fi at HF1 HF5
  clear t2 u0 u1 u2
  refine wp_flow (by kernel_rfl) plainT plainT_ok (by kernel_rfl) ?_
  refine flow_move_out plainT_ok rfl rfl rfl ?_
  refine flow_move_out plainT_ok rfl rfl rfl ?_
  refine flow_eql plainT_ok (.inn rfl) (.inn rfl) (fun ev W he e1 e2 => by go_simp) rfl ?_
  refine flow_move plainT_ok rfl (keeps_isV _) (.inr (keeps_isV _)) rfl ?_
  refine flow_move_out plainT_ok rfl rfl rfl ?_
  refine flow_move_out plainT_ok rfl rfl rfl ?_
  refine flow_eql plainT_ok (.inn rfl) (.inn rfl) (fun ev W he e1 e2 => by go_simp) rfl ?_
  refine flow_and plainT_ok rfl rfl rfl ?_
  refine flow_move plainT_ok rfl (keeps_isV _) (.inr (keeps_isV _)) rfl ?_
  refine flow_move_out plainT_ok rfl rfl rfl ?_
  refine flow_move_out plainT_ok rfl rfl rfl ?_
  refine flow_eql plainT_ok (.inn rfl) (.inn rfl) (fun ev W he e1 e2 => by go_simp) rfl ?_
  refine flow_and plainT_ok rfl rfl rfl ?_
  refine flow_move plainT_ok rfl (keeps_isV _) (.inr (keeps_isV _)) rfl ?_
  refine flow1h (r := .agg #[.int .i64 pages, .int .i64 most, .slice A n c]) plainT_ok rfl (.out rfl rfl) rfl (fun ev W he hW e1 => by have z0 := (HU4.out.keep (HDR.out.trans (show Chg [] w4.drew _ from hW))).cell 0; have z1 := (HU4.out.keep (HDR.out.trans (show Chg [] w4.drew _ from hW))).cell 1; have z2 := (HU4.out.keep (HDR.out.trans (show Chg [] w4.drew _ from hW))).cell 2; go_simp) ?_
  refine flow1 (r := .pointer (some ⟨g + 1, 2, none⟩)) plainT_ok rfl (.out rfl rfl) rfl (fun ev W he e1 => by go_simp) ?_
  refine flow1h (r := .int .i32 nm) plainT_ok rfl (.inn rfl) rfl (fun ev W he hW e1 => by have z2 := (HT4.out.keep (HDR.out.trans (show Chg [] w4.drew _ from hW))).cell 2; go_simp) ?_
  refine flow_callv (.int .i64 fi) (by kernel_rfl) rfl (.cons (.inn rfl) (.cons (.inn rfl) .nil)) (fun V hV => (HF1.out V (HDR.out.trans (show Chg [] w4.drew _ from hV))).mono fun e w' hb => ⟨hb.1, by rw [plain_by]; exact hb.2⟩) ?_
  refine flow1h (r := .agg #[.int .i64 pages, .int .i64 most, .slice A n c]) plainT_ok rfl (.out rfl rfl) rfl (fun ev W he hW e1 => by have z0 := (HU4.out.keep (HDR.out.trans (show Chg [] w4.drew _ from hW))).cell 0; have z1 := (HU4.out.keep (HDR.out.trans (show Chg [] w4.drew _ from hW))).cell 1; have z2 := (HU4.out.keep (HDR.out.trans (show Chg [] w4.drew _ from hW))).cell 2; go_simp) ?_
  refine flow1 (r := .pointer (some ⟨g + 1, 2, none⟩)) plainT_ok rfl (.out rfl rfl) rfl (fun ev W he e1 => by go_simp) ?_
  refine flow1h (r := .int .i32 nm) plainT_ok rfl (.inn rfl) rfl (fun ev W he hW e1 => by have z2 := (HT4.out.keep (HDR.out.trans (show Chg [] w4.drew _ from hW))).cell 2; go_simp) ?_
  refine flow_callv (.int .i64 fi) (by kernel_rfl) rfl (.cons (.inn rfl) (.cons (.inn rfl) .nil)) (fun V hV => (HF5.out V (HDR.out.trans (show Chg [] w4.drew _ from hV))).mono fun e w' hb => ⟨hb.1, by rw [plain_by]; exact hb.2⟩) ?_
  refine flow_eql plainT_ok (.inn rfl) (.inn rfl) (fun ev W he e1 e2 => by go_simp) rfl ?_
  refine flow_and plainT_ok rfl rfl rfl ?_
  refine flow_assign plainT_ok rfl (keeps_isV _) (.inr (keeps_isV _)) rfl ?_
  intro vs V hV hG
  obtain e4 : vs 4 = .bool true := hG 4 _ rfl (by kernel_rfl)
  have HP := Lib.hid (show LawPost w (.returned (.bool true)) V from ⟨rfl, HC4.out.new (HDR.out.trans (show Chg [] w4.drew _ from hV))⟩)
  simp only [putAll, Act.put, List.setIfInBounds_toArray, List.set_cons_zero, List.set_cons_succ, e4]
  clear hG hV e4
  go_wp2_with fail
  go_ret
  exact HP.out
end
end Go.Proofs.Ytafgpmempgoikaa
