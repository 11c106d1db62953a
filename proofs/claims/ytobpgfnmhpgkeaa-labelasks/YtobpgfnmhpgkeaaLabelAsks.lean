/-
  For every label as plain data and every numbers the law function LabelAsks returns true (Go: trunnionlaw12.LabelAsks). No condition.
-/
import Derived.Test.YtobpgfnmhpgkeaaRows
import Derived.Test.YtobpgfnmhpgkeaaBufArgs
import Derived.Test.YtobpgfnmhpgkeaaLbLabels
import Derived.Test.YtobpgfnmhpgkeaaLbAsk
import Derived.Test.YtobpgfnmhpgkeaaLbWakes
import Derived.Test.YtobpgfnmhpgkeaaLbArgs
import Derived.WalkKit
import Derived.ProofKit
import Derived.OpenShut
import Derived.ShutString
import Derived.Deep.QuietTactic
import Derived.BigQuiet
import Derived.Deep.RegionWith
import Derived.Deep.RegionHeld3
import Derived.Deep.DeepCutAuto
import Derived.Deep.CutBlock
namespace Go.Proofs.Ytobpgfnmhpgkeaa.labelAsks
open Go.ChangeShapes Go.WideShapes Go.ChangeAt Go.RowKit
open Go.ChangeMaps (open_string shut_string)
open Go.Proofs.Ytobpgfnmhpgkeaa Plain
set_option linter.unusedVariables false

theorem own : ownKnob Try.prog.godebug = none := by kernel_rfl
theorem laidOut : laidOutB Try.prog = true := by kernel_rfl
set_option maxRecDepth 100000 in
set_option maxHeartbeats 8000000 in
theorem walkN (w : World) (n s ep : Int) (rs rm : Value) (sts mks : List Int) (h1 : Nl w rs sts) (h2 : Nl w rm mks) (m t : Int) :
    Calls Try.prog 5 #[lV n s ep rs rm, .int .i64 m, .int .i64 t] w fun e w' => e = .returned (.bool true) ∧ Kp w w' := by
  obtain ⟨ra, rn, rc, rfl⟩ := h1.shape
  obtain ⟨rb, rm', rd, rfl⟩ := h2.shape
  have hLb := fun w' (k : Kp w w') => labels_any n s ep _ _ sts mks w' (h1.kept k) (h2.kept k)
  unfold lV at hLb ⊢
  clear h1 h2
  go_enter Try.func5, Try.ntmps5
  go_wp2_with fail
  refine (hLb _ ((Kp.refl w).alloc _)).mono ?_; rintro e w1 ⟨sv1, mv1, sv2, mv2, rfl, ⟨n1, n2⟩, ⟨n3, n4⟩, k1⟩
  obtain ⟨x1, y1, z1, rfl⟩ := n1.shape
  obtain ⟨x2, y2, z2, rfl⟩ := n2.shape
  obtain ⟨x3, y3, z3, rfl⟩ := n3.shape
  obtain ⟨x4, y4, z4, rfl⟩ := n4.shape
  obtain ⟨S, hS⟩ : ∃ S, S = sts.take 40 := ⟨_, rfl⟩
  obtain ⟨M, hM⟩ : ∃ M, M = mks.take 40 := ⟨_, rfl⟩
  rw [← hS] at n1 n3
  rw [← hM] at n2 n4
  have K1 : Hid (Kp w w1) := Kp.trans ((Kp.refl w).alloc _) k1
  have q1 := (Lc.new w1 n s ep (.slice x1 y1 z1) (.slice x2 y2 z2) 29).kept ((Kp.refl _).alloc (.cells #[.int .i64 n, .int .i64 s, .int .i64 ep, .slice x3 y3 z3, .slice x4 y4 z4] 32))
  have q2 := Lc.new (w1.alloc (.cells #[.int .i64 n, .int .i64 s, .int .i64 ep, .slice x1 y1 z1, .slice x2 y2 z2] 29)) n s ep (.slice x3 y3 z3) (.slice x4 y4 z4) 32
  rw [asz] at q2
  have kW : Kp w1 ((w1.alloc (.cells #[.int .i64 n, .int .i64 s, .int .i64 ep, .slice x1 y1 z1, .slice x2 y2 z2] 29)).alloc (.cells #[.int .i64 n, .int .i64 s, .int .i64 ep, .slice x3 y3 z3, .slice x4 y4 z4] 32)) := ((Kp.refl w1).alloc _).alloc _
  obtain ⟨W1, hW1⟩ : ∃ W, W = (w1.alloc (.cells #[.int .i64 n, .int .i64 s, .int .i64 ep, .slice x1 y1 z1, .slice x2 y2 z2] 29)).alloc (.cells #[.int .i64 n, .int .i64 s, .int .i64 ep, .slice x3 y3 z3, .slice x4 y4 z4] 32) := ⟨_, rfl⟩
  have HW1 := hid hW1
  rw [← hW1] at q1 q2 kW
  have hN := fun V (k : Kp W1 V) => And.intro (And.intro (n1.kept (kW.trans k)) (n2.kept (kW.trans k))) (And.intro (n3.kept (kW.trans k)) (n4.kept (kW.trans k)))
  have KW1 : Hid (Kp w W1) := K1.out.trans kW
  clear hW1 hS hM hLb k1 n1 n2 n3 n4 kW K1
  have hm1 := mask31 m
  have hm2 := mask63 t
  obtain ⟨mm, em⟩ : ∃ x, x = m % 32 := ⟨_, rfl⟩
  obtain ⟨tt, et⟩ : ∃ x, x = t % 64 := ⟨_, rfl⟩
  rw [← em] at hm1
  rw [← et] at hm2
  clear em et
  have c1 := fun p => lwhole_any ⟨n, s, ep, S, M⟩ _ _ m t (kpw W1 p) (hN _ (kpw_kp W1 p)).1.1 (hN _ (kpw_kp W1 p)).1.2
  have c2 := fun p => rwhole_any ⟨n, s, ep, S, M⟩ _ _ m t (kpw W1 p) (hN _ (kpw_kp W1 p)).2.1 (hN _ (kpw_kp W1 p)).2.2
  have c3 := fun p => lwhole_any ⟨n, s, ep, S, M⟩ _ _ mm tt (kpw W1 p) (hN _ (kpw_kp W1 p)).1.1 (hN _ (kpw_kp W1 p)).1.2
  have c4 := fun p => rwhole_any ⟨n, s, ep, S, M⟩ _ _ mm tt (kpw W1 p) (hN _ (kpw_kp W1 p)).2.1 (hN _ (kpw_kp W1 p)).2.2
  have c5 := fun p => lmiss_any ⟨n, s, ep, S, M⟩ _ _ (kpw W1 p) (hN _ (kpw_kp W1 p)).1.1 (hN _ (kpw_kp W1 p)).1.2
  have c6 := fun p => rmiss_any ⟨n, s, ep, S, M⟩ _ _ (kpw W1 p) (hN _ (kpw_kp W1 p)).2.1 (hN _ (kpw_kp W1 p)).2.2
  simp only at c1 c2 c3 c4 c5 c6
  obtain ⟨X1, e1⟩ : ∃ x, x = wh ⟨n, s, ep, S, M⟩ m t := ⟨_, rfl⟩
  obtain ⟨X2, e2⟩ : ∃ x, x = wh ⟨n, s, ep, S, M⟩ mm tt := ⟨_, rfl⟩
  obtain ⟨X3, e3⟩ : ∃ x, x = ms ⟨n, s, ep, S, M⟩ := ⟨_, rfl⟩
  rw [← e1] at c1 c2
  rw [← e2] at c3 c4
  rw [← e3] at c5 c6
  unfold lV at c1 c2 c3 c4 c5 c6
  have a0 := kpw_cell q1.c0
  have a1 := kpw_cell q1.c1
  have a2 := kpw_cell q1.c2
  have a3 := kpw_cell q1.c3
  have a4 := kpw_cell q1.c4
  have b0 := kpw_cell q2.c0
  have b1 := kpw_cell q2.c1
  have b2 := kpw_cell q2.c2
  have b3 := kpw_cell q2.c3
  have b4 := kpw_cell q2.c4
  clear e1 e2 e3 hN q1 q2
  go_wp2_with fail
  rw [← HW1.out]
  clear HW1
  refine wp_region_kp (by kernel_rfl) (by kernel_rfl) ?_
  repeat (first
    | go_big_quiet_skip
    | (go_big_quiet_want; go_big_quiet_op; go_big_quiet_on)
    | (go_big_quiet_want; go_big_quiet_op; apply Exists.intro; refine ⟨fun p => ?_, ?_⟩; (focus
        first
        | (go_at_call 14; exact kp_call (wakes_any _))
        | (go_at_call_of 20 (Value.int .i64 m); exact kp_call (c1 _))
        | (go_at_call_of 20 (Value.int .i64 mm); exact kp_call (c3 _))
        | (go_at_call_of 21 (Value.int .i64 m); exact kp_call (c2 _))
        | (go_at_call_of 21 (Value.int .i64 mm); exact kp_call (c4 _))
        | (go_at_call 22; exact kp_call (c5 _))
        | (go_at_call 23; exact kp_call (c6 _))); go_big_quiet_on))
  refine wpQuiet_nil ?_
  rintro w6 ⟨p, rfl⟩
  go_wp2
  go_ret
  exact ⟨rfl, KW1.out.trans (kpw_kp W1 p)⟩
theorem walk (w : World) (a0 : RL) (a1 : Int) (a2 : Int) (w0 : ROk w a0) (w1 : (Lit.int .i64 a1).wf = true) (w2 : (Lit.int .i64 a2).wf = true) :
    Calls Try.prog 5 #[rV a0, .int .i64 a1, .int .i64 a2] w fun e w' => e = .returned (.bool true) ∧ Kp w w' := by
  exact walkN w a0.n a0.s a0.ep a0.sv a0.mv a0.sts a0.mks w0.h1 w0.h2 a1 a2

set_option maxRecDepth 100000 in
theorem lifted (os : Os) (started : os.Started) (H : Type) (enc : TypeId × Value → H) :
    ReturnsInHanded {} Try.checked os 5 .any (Rows.labelAsksSpec.pre6 enc Try.prog Try.f5 Rows.labelAsksRow.domain false) (Rows.labelAsksSpec.post enc Try.prog Try.f5 false true false false) := by
  refine returnsInHanded_of_change (C := Try.checked) own started (by kernel_rfl) Try.func5
    (ChangeSpec.witness6 (enc := enc) (C := Try.checked) false ⟨#[], #[.agg #[.int .i64 0, .int .i64 0, .int .i64 0, .slice none 0 0, .slice none 0 0], .int .i64 0, .int .i64 0], []⟩ 8 (by kernel_rfl) (by kernel_rfl) (by kernel_rfl) (by kernel_rfl)) ?_
  intro W base args ds gs before hval0 hW hcnd _
  have hval : ∀ (j : Nat) t v, Try.f5.params[j]? = some t → args[j]? = some v → Value.okWide Try.prog W .any base t v := hval0
  have hW' := hW
  have hlt := hW.lt
  obtain ⟨p, q, hA0, hV, rfl, hfz, hnd⟩ := hW
  have hA : DataW.TrodAll enc Try.prog W 0 (fun _ => true) true Try.f5.params.toList args.toList ds p := hA0
  have hAk := hA
  rw [Try.params5] at hA hval
  obtain ⟨v0, vs0, d0, ds0, p0, q0, hargs, rfl, rfl, h0, r0⟩ := trodAll_cons hA
  obtain ⟨v1, vs1, d1, ds1, p1, q1, rfl, rfl, rfl, h1, r1⟩ := trodAll_cons r0
  obtain ⟨v2, vs2, d2, ds2, p2, q2, rfl, rfl, rfl, h2, r2⟩ := trodAll_cons r1
  obtain ⟨rfl, rfl, rfl⟩ := trodAll_nil r2
  obtain rfl : args = #[v0, v1, v2] := by cases args; simp_all
  obtain ⟨rfl, rfl⟩ := trodVars_none hV
  obtain ⟨a0, rfl, w0⟩ := open_raw (hval 0 24 v0 rfl rfl) h0
  obtain ⟨a1, rfl, rfl, rfl, w1⟩ := open_int Try.underlying3 (hval 1 3 v1 rfl rfl) h1
  obtain ⟨a2, rfl, rfl, rfl, w2⟩ := open_int Try.underlying3 (hval 2 3 v2 rfl rfl) h2
  clear hA0 hval0
  simp only [List.append_nil] at hW' hAk hlt
  refine (walk W a0 a1 a2 w0 w1 w2).mono fun e W' ⟨he, hg⟩ => ?_
  subst he
  exact ⟨_, rfl, post_kp (pv := []) hW' (fun _ _ _ => (trodAll_cons_mk (shut_bool Try.underlying4 _) trodAll_mk0)) (fun sp hsp => trodAll_stays laidOut (by rw [Try.params5]; exact of_decide_eq_true (by kernel_rfl)) hAk (fun x hx => Below.same hg (hlt x hx)) hsp) (fun _ _ => rfl) (by simp) hg⟩

theorem over : Rows.labelAsksRow.holds Try.pinned (OpenSpec.ofChange Rows.labelAsksSpec) :=
  OpenClaim.holds_of_wide 5 Try.f5 rfl rfl rfl rfl rfl rfl rfl ⟨rfl, rfl, rfl, rfl, rfl⟩ rfl rfl rfl rfl rfl (by kernel_rfl) Try.func5 (by kernel_rfl)
    (of_decide_eq_true (by kernel_rfl)) (by unfold Func.isWrapper; first | (rw [if_pos (by decide +kernel)]; kernel_rfl) | (rw [if_neg (by decide +kernel)]; exact ⟨rfl, rfl⟩))
    (fun os started H enc _ => lifted os started H enc)

end Go.Proofs.Ytobpgfnmhpgkeaa.labelAsks
namespace Go.Proofs.Ytobpgfnmhpgkeaa
theorem labelAsks_holds : Rows.LabelAsksSaid := labelAsks.over
end Go.Proofs.Ytobpgfnmhpgkeaa
