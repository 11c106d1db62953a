/-
  For every two texts and every byte the law function BulkFolds returns true (Go: trunnionlaw03.BulkFolds). No condition.
-/
import Derived.Test.YtaiohofddlomlaaRows
import Derived.Test.YtaiohofddlomlaaBufArgs
import Derived.Test.YtaiohofddlomlaaBufFit
import Derived.WalkKit
import Derived.ProofKit
import Derived.OpenShut
import Derived.ShutString
import Derived.BigQuiet
import Derived.Deep.RegionWith
import Derived.Deep.DeepCutAuto
namespace Go.Proofs.Ytaiohofddlomlaa.bulkFolds
open Go.ChangeShapes Go.WideShapes Go.ChangeAt Go.RowKit
open Go.ChangeMaps (open_string shut_string)
open Go.Proofs.Ytaiohofddlomlaa Plain Go.BigFrame
set_option linter.unusedVariables false

theorem own : ownKnob Try.prog.godebug = none := by kernel_rfl
theorem laidOut : laidOutB Try.prog = true := by kernel_rfl
theorem cellsS : Try.prog.cellsOf 9 = 1 := by kernel_rfl
theorem cellsT : Try.prog.cellsOf 31 = 2 := by kernel_rfl
set_option maxRecDepth 100000 in
set_option maxHeartbeats 8000000 in
theorem walk (w : World) (a0 b0 : ByteArray) (a1 : Int) (a2 : Bool) (w0 : a0.size ≤ maxLen) (x0 : b0.size ≤ maxLen) (w1 : (Lit.int .u8 a1).wf = true) :
    Calls Try.prog 4 #[.agg #[.string a0, .string b0], .int .u8 a1, .bool a2] w fun e w' => e = .returned (.bool true) ∧ Kp w w' := by
  have h1 := bounds_u8 w1
  obtain ⟨c, rfl⟩ : ∃ n : Nat, a1 = n := ⟨a1.toNat, by omega⟩
  have hc : c < 256 := by omega
  clear h1
  have K0 : Kp w (w.alloc (.cells #[.string a0, .string b0] 31)) := (Kp.refl w).alloc _
  have HC := cut_any a2 _ [a0, b0] (small2 w0 x0) _ (StrsIn.lit2 w a0 b0 31)
  go_enter Try.func4, Try.ntmps4
  go_wp2_with fail
  refine HC.mono ?_; rintro e w1 ⟨v, rfl, hS, k1⟩
  have K1 := K0.trans k1
  clear K0 k1 HC
  have hA := cutE_le a2 [a0, b0] 0
  have hB := cutE_le a2 [a0, b0] 1
  obtain ⟨A, hAe⟩ : ∃ A, A = cutE a2 [a0, b0] 0 := ⟨_, rfl⟩
  obtain ⟨B, hBe⟩ : ∃ B, B = cutE a2 [a0, b0] 1 := ⟨_, rfl⟩
  have hS1 : StrsIn w1 v [A, B] := by rw [hAe, hBe]; exact hS
  rw [← hAe] at hA
  rw [← hBe] at hB
  clear hS hAe hBe
  obtain ⟨b, off, cap, rfl, hcp, hcl, c0, c1⟩ := hS1.two
  clear hS1
  have mA : A.size ≤ maxLen := by unfold maxLen; omega
  have mB : B.size ≤ maxLen := by unfold maxLen; omega
  go_wp2_with fail
  refine (scale_any c hc A mA w1).mono ?_; rintro e w2 ⟨rfl, k⟩
  have K2 := K1.trans k
  have c0' := k.held c0
  have c1' := k.held c1
  clear c0 c1 K1 k
  have c0 := c0'
  have c1 := c1'
  clear c0' c1'
  go_wp2_with fail
  refine (rscale_any c hc A mA w2).mono ?_; rintro e w3 ⟨rfl, k⟩
  have K3 := K2.trans k
  have c0' := k.held c0
  have c1' := k.held c1
  clear c0 c1 K2 k
  have c0 := c0'
  have c1 := c1'
  clear c0' c1'
  have q0 := kpw_cell c0
  have q1 := kpw_cell c1
  go_wp2_with fail
  refine wp_region_kp (by kernel_rfl) (by kernel_rfl) ?_
  repeat (first
    | go_big_quiet_skip
    | (go_big_quiet_want; go_big_quiet_op; go_big_quiet_on)
    | (go_big_quiet_want; go_big_quiet_op; apply Exists.intro; refine ⟨fun p => ?_, ?_⟩; (focus (go_at_call 14; exact kp_call (fold_any A mA c hc B mB _))); go_big_quiet_on))
  refine wpQuiet_nil ?_
  rintro w4 ⟨p, hp⟩
  have k : Kp w3 w4 := by rw [hp]; exact kpw_kp _ _
  clear hp q0 q1
  have K4 := K3.trans k
  have c0' := k.held c0
  have c1' := k.held c1
  clear c0 c1 K3 k
  have c0 := c0'
  have c1 := c1'
  clear c0' c1'
  have q0 := kpw_cell c0
  have q1 := kpw_cell c1
  go_wp2_with fail
  refine wp_region_kp (by kernel_rfl) (by kernel_rfl) ?_
  repeat (first
    | go_big_quiet_skip
    | (go_big_quiet_want; go_big_quiet_op; go_big_quiet_on)
    | (go_big_quiet_want; go_big_quiet_op; apply Exists.intro; refine ⟨fun p => ?_, ?_⟩; (focus (go_at_call 15; exact kp_call (rfold_any A mA c hc B mB _))); go_big_quiet_on))
  refine wpQuiet_nil ?_
  rintro w5 ⟨p, hp⟩
  have k : Kp w4 w5 := by rw [hp]; exact kpw_kp _ _
  clear hp q0 q1
  have K5 := K4.trans k
  have c0' := k.held c0
  have c1' := k.held c1
  clear c0 c1 K4 k
  have c0 := c0'
  have c1 := c1'
  clear c0' c1'
  have q0 := kpw_cell c0
  have q1 := kpw_cell c1
  go_wp2_with fail
  refine wp_region_kp (by kernel_rfl) (by kernel_rfl) ?_
  repeat (first
    | go_big_quiet_skip
    | (go_big_quiet_want; go_big_quiet_op; go_big_quiet_on)
    | (go_big_quiet_want; go_big_quiet_op; apply Exists.intro; refine ⟨fun p => ?_, ?_⟩; (focus (go_at_call 16; exact kp_call (double_any A B mA mB _))); go_big_quiet_on))
  refine wpQuiet_nil ?_
  rintro w6 ⟨p, hp⟩
  have k : Kp w5 w6 := by rw [hp]; exact kpw_kp _ _
  clear hp q0 q1
  have K6 := K5.trans k
  have c0' := k.held c0
  have c1' := k.held c1
  clear c0 c1 K5 k
  have c0 := c0'
  have c1 := c1'
  clear c0' c1'
  have q0 := kpw_cell c0
  have q1 := kpw_cell c1
  go_wp2_with fail
  refine wp_region_kp (by kernel_rfl) (by kernel_rfl) ?_
  repeat (first
    | go_big_quiet_skip
    | (go_big_quiet_want; go_big_quiet_op; go_big_quiet_on)
    | (go_big_quiet_want; go_big_quiet_op; apply Exists.intro; refine ⟨fun p => ?_, ?_⟩; (focus (go_at_call 17; exact kp_call (rdouble_any A B mA mB _))); go_big_quiet_on))
  refine wpQuiet_nil ?_
  rintro w7 ⟨p, hp⟩
  have k : Kp w6 w7 := by rw [hp]; exact kpw_kp _ _
  clear hp q0 q1
  have K7 := K6.trans k
  have c0' := k.held c0
  have c1' := k.held c1
  clear c0 c1 K6 k
  have c0 := c0'
  have c1 := c1'
  clear c0' c1'
  go_wp2_with fail
  refine (wakes_any w7).mono ?_; rintro e wz ⟨rfl, kz⟩
  have KZ := K7.trans kz
  clear kz
  go_wp2
  go_ret
  exact ⟨rfl, KZ⟩

set_option maxRecDepth 100000 in
theorem lifted (os : Os) (started : os.Started) (H : Type) (enc : TypeId × Value → H) :
    ReturnsInHanded {} Try.checked os 4 .any (Rows.bulkFoldsSpec.pre6 enc Try.prog Try.f4 Rows.bulkFoldsRow.domain false) (Rows.bulkFoldsSpec.post enc Try.prog Try.f4 false true false false) := by
  refine returnsInHanded_of_change (C := Try.checked) own started (by kernel_rfl) Try.func4
    (ChangeSpec.witness6 (enc := enc) (C := Try.checked) false ⟨#[], #[.agg #[.string ByteArray.empty, .string ByteArray.empty], .int .u8 0, .bool false], []⟩ 8 (by kernel_rfl) (by kernel_rfl) (by kernel_rfl) (by kernel_rfl)) ?_
  intro W base args ds gs before hval0 hW hcnd _
  have hval : ∀ (j : Nat) t v, Try.f4.params[j]? = some t → args[j]? = some v → Value.okWide Try.prog W .any base t v := hval0
  have hW' := hW
  have hlt := hW.lt
  obtain ⟨p, q, hA0, hV, rfl, hfz, hnd⟩ := hW
  have hA : DataW.TrodAll enc Try.prog W 0 (fun _ => true) true Try.f4.params.toList args.toList ds p := hA0
  have hAk := hA
  rw [Try.params4] at hA hval
  obtain ⟨v0, vs0, d0, ds0, p0, q0, hargs, rfl, rfl, h0, r0⟩ := trodAll_cons hA
  obtain ⟨v1, vs1, d1, ds1, p1, q1, rfl, rfl, rfl, h1, r1⟩ := trodAll_cons r0
  obtain ⟨v2, vs2, d2, ds2, p2, q2, rfl, rfl, rfl, h2, r2⟩ := trodAll_cons r1
  obtain ⟨rfl, rfl, rfl⟩ := trodAll_nil r2
  obtain rfl : args = #[v0, v1, v2] := by cases args; simp_all
  obtain ⟨rfl, rfl⟩ := trodVars_none hV
  obtain ⟨a0, b0, rfl, w0, x0⟩ := open_two Try.underlying31 Try.underlying9 cellsS cellsT (hval 0 31 v0 rfl rfl) h0
  obtain ⟨a1, rfl, rfl, rfl, w1⟩ := open_int Try.underlying5 (hval 1 5 v1 rfl rfl) h1
  obtain ⟨a2, rfl, rfl, rfl⟩ := open_bool Try.underlying4 (hval 2 4 v2 rfl rfl) h2
  clear hA0 hval0
  simp only [List.append_nil] at hW' hAk hlt
  refine (walk W a0 b0 a1 a2 w0 x0 w1).mono fun e W' ⟨he, hg⟩ => ?_
  subst he
  exact ⟨_, rfl, post_kp (pv := []) hW' (fun _ _ _ => (trodAll_cons_mk (shut_bool Try.underlying4 _) trodAll_mk0)) (fun sp hsp => trodAll_stays laidOut (by rw [Try.params4]; exact of_decide_eq_true (by kernel_rfl)) hAk (fun x hx => Below.same hg (hlt x hx)) hsp) (fun _ _ => rfl) (by simp) hg⟩

theorem over : Rows.bulkFoldsRow.holds Try.pinned (OpenSpec.ofChange Rows.bulkFoldsSpec) :=
  OpenClaim.holds_of_wide 4 Try.f4 rfl rfl rfl rfl rfl rfl rfl ⟨rfl, rfl, rfl, rfl, rfl⟩ rfl rfl rfl rfl rfl (by kernel_rfl) Try.func4 (by kernel_rfl)
    (of_decide_eq_true (by kernel_rfl)) (by unfold Func.isWrapper; first | (rw [if_pos (by decide +kernel)]; kernel_rfl) | (rw [if_neg (by decide +kernel)]; exact ⟨rfl, rfl⟩))
    (fun os started H enc _ => lifted os started H enc)

end Go.Proofs.Ytaiohofddlomlaa.bulkFolds
namespace Go.Proofs.Ytaiohofddlomlaa
theorem bulkFolds_holds : Rows.BulkFoldsSaid := bulkFolds.over
end Go.Proofs.Ytaiohofddlomlaa
