/-
  For every geometry the law function GeomGood returns true (Go: trunnionlaw09.GeomGood). No condition.
-/
import Derived.Test.YtbagjfmhaclaeaaRows
import Derived.Test.YtbagjfmhaclaeaaBufArgs
import Derived.Test.YtbagjfmhaclaeaaGmArgs
import Derived.WalkKit
import Derived.ProofKit
import Derived.OpenShut
import Derived.ShutString
import Derived.Deep.QuietTactic
import Derived.BigQuiet
import Derived.Deep.RegionWith
import Derived.Deep.RegionHeld3
import Derived.Deep.DeepCutAuto
import Derived.Deep.CutBlock
namespace Go.Proofs.Ytbagjfmhaclaeaa.geomGood
open Go.ChangeShapes Go.WideShapes Go.ChangeAt Go.RowKit
open Go.ChangeMaps (open_string shut_string)
open Go.Proofs.Ytbagjfmhaclaeaa Plain
set_option linter.unusedVariables false

theorem own : ownKnob Try.prog.godebug = none := by kernel_rfl
theorem laidOut : laidOutB Try.prog = true := by kernel_rfl
theorem cellsI : Try.prog.cellsOf 3 = 1 := by kernel_rfl
theorem cellsR : Try.prog.cellsOf 23 = 2 := by kernel_rfl
set_option maxRecDepth 100000 in
set_option maxHeartbeats 4000000 in
theorem walkN (w : World) (n s : Int) :
    Calls Try.prog 3 #[.agg #[.int .i64 n, .int .i64 s]] w fun e w' => e = .returned (.bool true) ∧ Kp w w' := by
  obtain ⟨w0, hw0⟩ : ∃ w0, w0 = w.alloc (.cells #[.int .i64 n, .int .i64 s] 23) := ⟨_, rfl⟩
  have HW : Hid (w0 = w.alloc (.cells #[.int .i64 n, .int .i64 s] 23)) := hw0
  have k0 : Kp w w0 := by rw [hw0]; exact (Kp.refl w).alloc _
  have r0 : w0.cell? ⟨w.heap.size, 0, none⟩ = some (.int .i64 n) := by rw [hw0]; simp
  have r1 : w0.cell? ⟨w.heap.size, 1, none⟩ = some (.int .i64 s) := by rw [hw0]; simp
  have hb0 : w.heap.size < w0.heap.size := World.block_lt_of_cell? _ _ r0
  have K0 : Hid (Kp w w0) := k0
  clear hw0 k0
  go_enter Try.func3, Try.ntmps3
  go_wp2_with fail
  rw [← HW.out]
  clear HW
  go_cut [3, 4] (fun p q wx => ∃ b1 b2, p = .pointer (some ⟨b1, 0, none⟩) ∧ q = .pointer (some ⟨b2, 0, none⟩) ∧ (wx.cell? ⟨b1, 0, none⟩ = some (.int .i64 n) ∧ wx.cell? ⟨b1, 1, none⟩ = some (.int .i64 s) ∧ wx.cell? ⟨b2, 0, none⟩ = some (.int .i64 n) ∧ wx.cell? ⟨b2, 1, none⟩ = some (.int .i64 s)) ∧ Kp w0 wx)
  case first =>
    go_region
    all_goals (go_wp2_with fail; go_meet)
    · obtain ⟨⟨⟨t1, t2⟩, t3, t4⟩, t5⟩ := two_boxes w0 (.int .i64 n) (.int .i64 s) (.int .i64 n) (.int .i64 s) 24 25
      exact ⟨_, _, rfl, rfl, ⟨t1, t2, t3, t4⟩, t5⟩
    · obtain ⟨⟨⟨t1, t2⟩, t3, t4⟩, t5⟩ := two_boxes w0 (.int .i64 n) (.int .i64 s) (.int .i64 n) (.int .i64 s) 25 24
      exact ⟨_, _, rfl, rfl, ⟨t3, t4, t1, t2⟩, t5⟩
  obtain ⟨b1, b2, rfl, rfl, ⟨q0, q1, q2, q3⟩, k3⟩ := hcut
  obtain ⟨w3, hw3⟩ : ∃ w3, w3 = wc := ⟨_, rfl⟩
  rw [← hw3] at q0 q1 q2 q3 k3 ⊢
  have K3 : Hid (Kp w w3) := K0.out.trans k3
  clear hw3 k3 r0 r1 K0
  have hO := rgood_any n s w3
  have h1 := good_any n s
  have h2 := data_any n s
  have h3 := blocks_any n s
  have h4 := rblocks_any n s
  have h5 := sectors_any n s
  unfold gV at hO h1 h2 h3 h4 h5
  go_wp2_with fail
  refine hO.mono ?_; rintro e w4 ⟨rfl, k4⟩
  have r0 := k4.held q0
  have r1 := k4.held q1
  have r2 := k4.held q2
  have r3 := k4.held q3
  have K4 : Hid (Kp w w4) := K3.out.trans k4
  clear hO k4 q0 q1 q2 q3 K3
  obtain ⟨B, eB⟩ : ∃ B, B = bI n s := ⟨_, rfl⟩
  rw [← eB] at h3 h4
  clear eB
  cases e1 : gg n s with
  | true =>
    obtain ⟨g1, g2, g3, g4⟩ := (gg_iff n s).1 e1
    rw [show dI n s = n - 2 from if_pos e1] at h2
    rw [show xI n s = 100 + s from if_pos e1] at h5
    rw [e1] at h1
    clear e1
    go_wp2_with fail
    go_quiet (fail)
    obtain ⟨W, hW⟩ : ∃ W, W = w4.drewN nq := ⟨_, rfl⟩
    have kW : Kp w4 W := by rw [hW]; exact (Kp.refl w4).drewN _
    rw [← hW]
    have q0 := kpw_cell (kW.held r0)
    have q1 := kpw_cell (kW.held r1)
    have q2 := kpw_cell (kW.held r2)
    have q3 := kpw_cell (kW.held r3)
    have K5 : Hid (Kp w W) := K4.out.trans kW
    clear hW kW r0 r1 r2 r3 K4
    go_wp2_with fail
    refine wp_region_kp (by kernel_rfl) (by kernel_rfl) ?_
    repeat (first
      | go_big_quiet_skip
      | (go_big_quiet_want; go_big_quiet_op; go_big_quiet_on)
      | (go_big_quiet_want; go_big_quiet_op; apply Exists.intro; refine ⟨fun p => ?_, ?_⟩; (focus
          first
          | (go_at_call 10; exact kp_call (wakes_any _))
          | (go_at_call 11; exact kp_call (h1 _))
          | (go_at_call 12; exact kp_call (h2 _))
          | (go_at_call 13; exact kp_call (h3 _))
          | (go_at_call 14; exact kp_call (h4 _))
          | (go_at_call 15; exact kp_call (h5 _))); go_big_quiet_on))
    refine wpQuiet_nil ?_
    rintro w6 ⟨p, rfl⟩
    go_wp2
    go_ret
    exact ⟨rfl, K5.out.trans (kpw_kp W p)⟩
  | false =>
    rw [show dI n s = 0 from if_neg (by simp [e1])] at h2
    rw [show xI n s = 0 from if_neg (by simp [e1])] at h5
    rw [e1] at h1
    clear e1
    obtain ⟨W, hW⟩ : ∃ W, W = w4 := ⟨_, rfl⟩
    rw [← hW] at K4 r0 r1 r2 r3 ⊢
    have K5 := K4
    have q0 := kpw_cell r0
    have q1 := kpw_cell r1
    have q2 := kpw_cell r2
    have q3 := kpw_cell r3
    clear hW r0 r1 r2 r3 K4
    go_wp2_with fail
    refine wp_region_kp (by kernel_rfl) (by kernel_rfl) ?_
    repeat (first
      | go_big_quiet_skip
      | (go_big_quiet_want; go_big_quiet_op; go_big_quiet_on)
      | (go_big_quiet_want; go_big_quiet_op; apply Exists.intro; refine ⟨fun p => ?_, ?_⟩; (focus
          first
          | (go_at_call 10; exact kp_call (wakes_any _))
          | (go_at_call 11; exact kp_call (h1 _))
          | (go_at_call 12; exact kp_call (h2 _))
          | (go_at_call 13; exact kp_call (h3 _))
          | (go_at_call 14; exact kp_call (h4 _))
          | (go_at_call 15; exact kp_call (h5 _))); go_big_quiet_on))
    refine wpQuiet_nil ?_
    rintro w6 ⟨p, rfl⟩
    go_wp2
    go_ret
    exact ⟨rfl, K5.out.trans (kpw_kp W p)⟩
theorem walk (w : World) (a0 b0 : Int) (w0 : (Lit.int .i64 a0).wf = true) (x0 : (Lit.int .i64 b0).wf = true) :
    Calls Try.prog 3 #[.agg #[.int .i64 a0, .int .i64 b0]] w fun e w' => e = .returned (.bool true) ∧ Kp w w' := by
  exact walkN w a0 b0

set_option maxRecDepth 100000 in
theorem lifted (os : Os) (started : os.Started) (H : Type) (enc : TypeId × Value → H) :
    ReturnsInHanded {} Try.checked os 3 .any (Rows.geomGoodSpec.pre6 enc Try.prog Try.f3 Rows.geomGoodRow.domain false) (Rows.geomGoodSpec.post enc Try.prog Try.f3 false true false false) := by
  refine returnsInHanded_of_change (C := Try.checked) own started (by kernel_rfl) Try.func3
    (ChangeSpec.witness6 (enc := enc) (C := Try.checked) false ⟨#[], #[.agg #[.int .i64 0, .int .i64 0]], []⟩ 8 (by kernel_rfl) (by kernel_rfl) (by kernel_rfl) (by kernel_rfl)) ?_
  intro W base args ds gs before hval0 hW hcnd _
  have hval : ∀ (j : Nat) t v, Try.f3.params[j]? = some t → args[j]? = some v → Value.okWide Try.prog W .any base t v := hval0
  have hW' := hW
  have hlt := hW.lt
  obtain ⟨p, q, hA0, hV, rfl, hfz, hnd⟩ := hW
  have hA : DataW.TrodAll enc Try.prog W 0 (fun _ => true) true Try.f3.params.toList args.toList ds p := hA0
  have hAk := hA
  rw [Try.params3] at hA hval
  obtain ⟨v0, vs0, d0, ds0, p0, q0, hargs, rfl, rfl, h0, r0⟩ := trodAll_cons hA
  obtain ⟨rfl, rfl, rfl⟩ := trodAll_nil r0
  obtain rfl : args = #[v0] := by cases args; simp_all
  obtain ⟨rfl, rfl⟩ := trodVars_none hV
  obtain ⟨a0, b0, rfl, w0, x0⟩ := open_span Try.underlying23 cellsR rfl rfl cellsI cellsI Try.underlying3 Try.underlying3 (hval 0 23 v0 rfl rfl) h0
  clear hA0 hval0
  simp only [List.append_nil] at hW' hAk hlt
  refine (walk W a0 b0 w0 x0).mono fun e W' ⟨he, hg⟩ => ?_
  subst he
  exact ⟨_, rfl, post_kp (pv := []) hW' (fun _ _ _ => (trodAll_cons_mk (shut_bool Try.underlying4 _) trodAll_mk0)) (fun sp hsp => trodAll_stays laidOut (by rw [Try.params3]; exact of_decide_eq_true (by kernel_rfl)) hAk (fun x hx => Below.same hg (hlt x hx)) hsp) (fun _ _ => rfl) (by simp) hg⟩

theorem over : Rows.geomGoodRow.holds Try.pinned (OpenSpec.ofChange Rows.geomGoodSpec) :=
  OpenClaim.holds_of_wide 3 Try.f3 rfl rfl rfl rfl rfl rfl rfl ⟨rfl, rfl, rfl, rfl, rfl⟩ rfl rfl rfl rfl rfl (by kernel_rfl) Try.func3 (by kernel_rfl)
    (of_decide_eq_true (by kernel_rfl)) (by unfold Func.isWrapper; first | (rw [if_pos (by decide +kernel)]; kernel_rfl) | (rw [if_neg (by decide +kernel)]; exact ⟨rfl, rfl⟩))
    (fun os started H enc _ => lifted os started H enc)

end Go.Proofs.Ytbagjfmhaclaeaa.geomGood
namespace Go.Proofs.Ytbagjfmhaclaeaa
theorem geomGood_holds : Rows.GeomGoodSaid := geomGood.over
end Go.Proofs.Ytbagjfmhaclaeaa
