/-
  For every two lists of spans, and whether they are made whole or not, the law function SpansJoin returns true (Go: trunnionlaw08.SpansJoin). No condition.
-/
import Derived.Test.YtmkmejdbhikomaaRows
import Derived.Test.YtmkmejdbhikomaaBufArgs
import Derived.Test.YtmkmejdbhikomaaSpArgs
import Derived.Test.YtmkmejdbhikomaaSpJoin
import Derived.WalkKit
import Derived.ProofKit
import Derived.OpenShut
import Derived.ShutString
import Derived.Deep.QuietTactic
import Derived.BigQuiet
import Derived.Deep.RegionWith
import Derived.Deep.DeepCutAuto
import Derived.Deep.CutBlock
namespace Go.Proofs.Ytmkmejdbhikomaa.spansJoin
open Go.ChangeShapes Go.WideShapes Go.ChangeAt Go.RowKit
open Go.ChangeMaps (open_string shut_string)
open Go.Proofs.Ytmkmejdbhikomaa Plain
set_option linter.unusedVariables false

theorem own : ownKnob Try.prog.godebug = none := by kernel_rfl
theorem laidOut : laidOutB Try.prog = true := by kernel_rfl
theorem cellsI : Try.prog.cellsOf 3 = 1 := by kernel_rfl
theorem cellsSp : Try.prog.cellsOf 23 = 2 := by kernel_rfl
set_option maxRecDepth 100000 in
set_option maxHeartbeats 4000000 in
theorem walkN (w : World) (v1 v2 : Value) (l1 l2 : List (Int × Int)) (whole : Bool) (h1 : SpIn w v1 l1) (h2 : SpIn w v2 l2) :
    Calls Try.prog 5 #[v1, v2, .bool whole] w fun e w' => e = .returned (.bool true) ∧ Kp w w' := by
  have hA := lists_any v1 l1 whole w h1
  have HB : Hid (∀ w', Kp w w' → Calls Try.prog 9 #[v2, .bool whole] w' fun e w'' => ∃ va vb L, e = .returned (.tuple #[va, vb]) ∧ LsR w' w'' va vb L ∧ (whole = true → G L)) := fun w' k => lists_any v2 l2 whole w' (h2.kept k)
  clear h1 h2
  go_enter Try.func5, Try.ntmps5
  go_wp2_with fail
  refine hA.mono ?_; rintro e w1 ⟨va, vb, L, rfl, hL, _⟩
  have HL : Hid (LsR w w1 va vb L) := hL
  clear hA hL
  go_wp2_with fail
  refine (HB.out w1 HL.out.k).mono ?_; rintro e w2 ⟨vc, vd, M, rfl, hM, _⟩
  have HM : Hid (LsR w1 w2 vc vd M) := hM
  have hJ := join_any va vc L M w2 (HL.out.a.kept hM.k) hM.a (by have := HL.out.len; omega) (by have := hM.len; omega)
  have HG1 : Hid (∀ w', Kp w2 w' → Calls Try.prog 12 #[vb] w' fun e w'' => e = .returned (.bool (gL L)) ∧ Kp w' w'') := fun w' k => rgood_any vb L w' ((HL.out.b.kept HM.out.k).kept k)
  have HG2 : Hid (∀ w', Kp w2 w' → Calls Try.prog 12 #[vd] w' fun e w'' => e = .returned (.bool (gL M)) ∧ Kp w' w'') := fun w' k => rgood_any vd M w' (HM.out.b.kept k)
  have HBo : Hid (G L → G M → ∀ w', Kp w2 w' → Calls Try.prog 27 #[vb, vd, .int .i64 0] w' fun e w'' => ∃ u R, e = .returned u ∧ SpIn w'' u R ∧ G R ∧ (∀ x, hs R x = kF 0 (hs L x) (hs M x)) ∧ Kp w' w'') := fun gl gm w' k => both_any vb vd L M 0 (.inl rfl) w' ((HL.out.b.kept HM.out.k).kept k) (HM.out.b.kept k) (by have := HL.out.len; omega) (by have := HM.out.len; omega) gl gm
  have K2 : Hid (Kp w w2) := HL.out.k.trans HM.out.k
  clear HB hM HL HM
  go_wp2_with fail
  refine hJ.mono ?_; rintro e w3 ⟨u, R, rfl, hu, k3, r0, r1⟩
  have HR : Hid (SpIn w3 u R) := hu
  have K3 : Hid (Kp w2 w3) := k3
  have HR0 : Hid (jnE L M = 0 → G R ∧ ∀ x, hs R x = (hs L x || hs M x)) := r0
  have HR1 : Hid (jnE L M ≠ 0 → R = []) := r1
  clear hJ hu k3 r0 r1
  cases e1 : gL L with
  | false =>
    have e4 : jnE L M = 4 := if_neg (by simp [e1])
    have hR : R = [] := HR1.out (by rw [e4]; decide)
    subst hR
    obtain ⟨a3, p3, rfl⟩ := empty_in HR.out
    rw [e4]
    rw [e1] at HG1
    clear e1 HR0 HR1 HBo HG2 e4 HR
    go_wp2_with fail
    refine (HG1.out w3 K3.out).mono ?_; rintro e w4 ⟨rfl, k4⟩
    have K4 : Hid (Kp w w4) := (K2.out.trans K3.out).trans k4
    clear HG1 k4 K2 K3
    go_wp2_with fail
    refine (wakes_any w4).mono ?_; rintro e w5 ⟨rfl, k5⟩
    have K5 := K4.out.trans k5
    clear K4 k5
    go_wp2
    go_ret
    exact ⟨rfl, K5⟩
  | true =>
    rw [e1] at HG1
    cases e2 : gL M with
    | false =>
      have e4 : jnE L M = 4 := (if_pos e1).trans (if_neg (by simp [e2]))
      have hR : R = [] := HR1.out (by rw [e4]; decide)
      subst hR
      obtain ⟨a3, p3, rfl⟩ := empty_in HR.out
      rw [e4]
      rw [e2] at HG2
      clear e1 e2 HR0 HR1 HBo e4 HR
      go_wp2_with fail
      refine (HG1.out w3 K3.out).mono ?_; rintro e w4 ⟨rfl, k4⟩
      have K4 : Hid (Kp w2 w4) := K3.out.trans k4
      clear HG1 k4 K3
      go_wp2_with fail
      refine (HG2.out w4 K4.out).mono ?_; rintro e w5 ⟨rfl, k5⟩
      have K5 : Hid (Kp w w5) := (K2.out.trans K4.out).trans k5
      clear HG2 k5 K4 K2
      go_wp2_with fail
      refine (wakes_any w5).mono ?_; rintro e w6 ⟨rfl, k6⟩
      have K6 := K5.out.trans k6
      clear K5 k6
      go_wp2
      go_ret
      exact ⟨rfl, K6⟩
    | true =>
      have e4 : jnE L M = 0 := (if_pos e1).trans (if_pos e2)
      obtain ⟨gR, hR⟩ := HR0.out e4
      rw [e4]
      rw [e2] at HG2
      have hBo := HBo.out ((gL_iff L).1 e1) ((gL_iff M).1 e2)
      have HBo2 : Hid _ := hBo
      have HGR : Hid (G R ∧ ∀ x, hs R x = (hs L x || hs M x)) := ⟨gR, hR⟩
      clear e1 e2 HR0 HR1 HBo e4 gR hR hBo
      go_wp2_with fail
      refine (HG1.out w3 K3.out).mono ?_; rintro e w4 ⟨rfl, k4⟩
      have K4 : Hid (Kp w2 w4) := K3.out.trans k4
      have L4 : Hid (Kp w3 w4) := k4
      clear HG1 k4 K3
      go_wp2_with fail
      refine (HG2.out w4 K4.out).mono ?_; rintro e w5 ⟨rfl, k5⟩
      have K5 : Hid (Kp w2 w5) := K4.out.trans k5
      have L5 : Hid (Kp w3 w5) := L4.out.trans k5
      clear HG2 k5 K4 L4
      go_wp2_with fail
      refine (wakes_any w5).mono ?_; rintro e w6 ⟨rfl, k6⟩
      have K6 : Hid (Kp w2 w6) := K5.out.trans k6
      have L6 : Hid (Kp w3 w6) := L5.out.trans k6
      clear K5 k6 L5
      go_wp2_with fail
      refine Calls.mono (HBo2.out w6 K6.out) ?_; rintro e w7 ⟨u2, R2, rfl, hu2, g2, x2, k7⟩
      have hS := same_any u u2 R R2 w7 (HR.out.kept (L6.out.trans k7)) hu2
      rw [show decide (R = R2) = true from decide_eq_true (HGR.out.1.one g2 (fun x => by rw [HGR.out.2 x, x2 x]; rfl))] at hS
      have K7 : Hid (Kp w w7) := (K2.out.trans K6.out).trans k7
      clear HBo2 hu2 g2 x2 k7 K6 L6 HR HGR
      go_wp2_with fail
      refine hS.mono ?_; rintro e w8 ⟨rfl, k8⟩
      have K8 := K7.out.trans k8
      clear hS K7 k8
      go_wp2
      go_ret
      exact ⟨rfl, K8⟩
theorem walk (w : World) (a0 : Value) (l0 : List (Int × Int)) (a1 : Value) (l1 : List (Int × Int)) (a2 : Bool) (w0 : SpIn w a0 l0) (w1 : SpIn w a1 l1) :
    Calls Try.prog 5 #[a0, a1, .bool a2] w fun e w' => e = .returned (.bool true) ∧ Kp w w' := by
  exact walkN w a0 a1 l0 l1 a2 w0 w1

set_option maxRecDepth 100000 in
theorem lifted (os : Os) (started : os.Started) (H : Type) (enc : TypeId × Value → H) :
    ReturnsInHanded {} Try.checked os 5 .any (Rows.spansJoinSpec.pre6 enc Try.prog Try.f5 Rows.spansJoinRow.domain false) (Rows.spansJoinSpec.post enc Try.prog Try.f5 false true false false) := by
  refine returnsInHanded_of_change (C := Try.checked) own started (by kernel_rfl) Try.func5
    (ChangeSpec.witness6 (enc := enc) (C := Try.checked) false ⟨#[], #[.slice none 0 0, .slice none 0 0, .bool false], []⟩ 8 (by kernel_rfl) (by kernel_rfl) (by kernel_rfl) (by kernel_rfl)) ?_
  intro W base args ds gs before hval0 hW hcnd _
  have hval : ∀ (j : Nat) t v, Try.f5.params[j]? = some t → args[j]? = some v → Value.okWide Try.prog W .any base t v := hval0
  have hW' := hW
  have hlt := hW.lt
  obtain ⟨p, q, hA0, hV, rfl, hfz, hnd⟩ := hW
  have hA : DataW.TrodAll enc Try.prog W 0 (fun _ => true) true Try.f5.params.toList args.toList ds p := hA0
  have hAk := hA
  rw [Try.params5] at hA hval
  obtain ⟨v0, vs0, d0, ds0, p0, q0, hargs, rfl, rfl, h0, r0⟩ := trodAll_cons hA
  obtain ⟨v1, vs1, d1, ds1, p1, q1, rfl, rfl, rfl, h1, r1⟩ := trodAll_cons r0
  obtain ⟨v2, vs2, d2, ds2, p2, q2, rfl, rfl, rfl, h2, r2⟩ := trodAll_cons r1
  obtain ⟨rfl, rfl, rfl⟩ := trodAll_nil r2
  obtain rfl : args = #[v0, v1, v2] := by cases args; simp_all
  obtain ⟨rfl, rfl⟩ := trodVars_none hV
  obtain ⟨l0, w0⟩ := open_spans Try.underlying24 Try.underlying23 cellsSp rfl rfl cellsI cellsI Try.underlying3 Try.underlying3 (hval 0 24 v0 rfl rfl) h0
  obtain ⟨l1, w1⟩ := open_spans Try.underlying24 Try.underlying23 cellsSp rfl rfl cellsI cellsI Try.underlying3 Try.underlying3 (hval 1 24 v1 rfl rfl) h1
  obtain ⟨a2, rfl, rfl, rfl⟩ := open_bool Try.underlying4 (hval 2 4 v2 rfl rfl) h2
  clear hA0 hval0
  simp only [List.append_nil] at hW' hAk hlt
  refine (walk W v0 l0 v1 l1 a2 w0 w1).mono fun e W' ⟨he, hg⟩ => ?_
  subst he
  exact ⟨_, rfl, post_kp (pv := []) hW' (fun _ _ _ => (trodAll_cons_mk (shut_bool Try.underlying4 _) trodAll_mk0)) (fun sp hsp => trodAll_stays laidOut (by rw [Try.params5]; exact of_decide_eq_true (by kernel_rfl)) hAk (fun x hx => Below.same hg (hlt x hx)) hsp) (fun _ _ => rfl) (by simp) hg⟩

theorem over : Rows.spansJoinRow.holds Try.pinned (OpenSpec.ofChange Rows.spansJoinSpec) :=
  OpenClaim.holds_of_wide 5 Try.f5 rfl rfl rfl rfl rfl rfl rfl ⟨rfl, rfl, rfl, rfl, rfl⟩ rfl rfl rfl rfl rfl (by kernel_rfl) Try.func5 (by kernel_rfl)
    (of_decide_eq_true (by kernel_rfl)) (by unfold Func.isWrapper; first | (rw [if_pos (by decide +kernel)]; kernel_rfl) | (rw [if_neg (by decide +kernel)]; exact ⟨rfl, rfl⟩))
    (fun os started H enc _ => lifted os started H enc)

end Go.Proofs.Ytmkmejdbhikomaa.spansJoin
namespace Go.Proofs.Ytmkmejdbhikomaa
theorem spansJoin_holds : Rows.SpansJoinSaid := spansJoin.over
end Go.Proofs.Ytmkmejdbhikomaa
