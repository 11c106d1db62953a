/-
  For every list of texts and every number the law function SyndromeMakes returns true (Go: trunnionlaw04.SyndromeMakes). No condition.
-/
import Derived.Test.YtjjghmdkpcbamaaRows
import Derived.Test.YtjjghmdkpcbamaaBufArgs
import Derived.Test.YtjjghmdkpcbamaaSynMore
import Derived.WalkKit
import Derived.ProofKit
import Derived.OpenShut
import Derived.ShutString
import Derived.BigQuiet
import Derived.Deep.RegionWith
import Derived.Deep.DeepCutAuto
namespace Go.Proofs.Ytjjghmdkpcbamaa.syndromeMakes
open Go.ChangeShapes Go.WideShapes Go.ChangeAt Go.RowKit
open Go.ChangeMaps (open_string shut_string)
open Go.Proofs.Ytjjghmdkpcbamaa Plain Go.BigFrame
set_option linter.unusedVariables false

theorem own : ownKnob Try.prog.godebug = none := by kernel_rfl
theorem laidOut : laidOutB Try.prog = true := by kernel_rfl
theorem cellsS : Try.prog.cellsOf 9 = 1 := by kernel_rfl
set_option maxRecDepth 100000 in
set_option maxHeartbeats 8000000 in
theorem walk (w : World) (a0 : Value) (l0 : List ByteArray) (a1 : Bool) (a2 : Int) (w0 : StrsIn w a0 l0) (x0 : ∀ i, i < l0.length → (l0.getD i noS).size ≤ maxLen) (w2 : (Lit.int .i64 a2).wf = true) :
    Calls Try.prog 3 #[a0, .bool a1, .int .i64 a2] w fun e w' => e = .returned (.bool true) ∧ Kp w w' := by
  have hib := bounds_i64 w2
  go_enter Try.func3, Try.ntmps3
  go_wp2_with fail
  refine (cut_any a1 a0 l0 x0 w w0).mono ?_; rintro e w1 ⟨v, rfl, hown, K1⟩
  have hL := cutL_small a1 l0 (min l0.length 34)
  obtain ⟨L, hLe⟩ : ∃ L, L = cutL a1 l0 (min l0.length 34) := ⟨_, rfl⟩
  have hS1 : StrsIn w1 v L := by rw [hLe]; exact StrsIn.owned (by rw [cutL_length]; exact hown)
  rw [← hLe] at hL
  clear hLe w0 hown
  go_wp2_with fail
  refine (make_any v L hL w1 hS1).mono ?_; rintro e w2 ⟨rfl, k⟩
  have K2 := K1.trans k
  have hS2 := hS1.kept k
  clear hS1
  clear k K1
  go_wp2_with fail
  refine (rmake_any v L hL w2 hS2).mono ?_; rintro e w3 ⟨rfl, k⟩
  have K3 := K2.trans k
  clear k K2
  go_wp2_with fail
  refine (wakes_any w3).mono ?_; rintro e w4 ⟨rfl, k⟩
  have K4 := K3.trans k
  clear k K3
  go_wp2_with fail
  refine (power_any a2 (by omega) (by omega) w4).mono ?_; rintro e w5 ⟨rfl, k⟩
  have K5 := K4.trans k
  clear k K4
  go_wp2_with fail
  refine (rpower_any a2 (by omega) (by omega) w5).mono ?_; rintro e w6 ⟨rfl, k⟩
  have K6 := K5.trans k
  clear k K5
  have hmk := mask31 a2
  go_wp2_with fail
  refine (power_any (a2 % 32) (by omega) (by omega) w6).mono ?_; rintro e w7 ⟨rfl, k⟩
  have K7 := K6.trans k
  clear k K6
  go_wp2_with fail
  refine (rpower_any (a2 % 32) (by omega) (by omega) w7).mono ?_; rintro e w8 ⟨rfl, k⟩
  have K8 := K7.trans k
  clear k K7
  go_wp2
  go_ret
  exact ⟨rfl, K8⟩

set_option maxRecDepth 100000 in
theorem lifted (os : Os) (started : os.Started) (H : Type) (enc : TypeId × Value → H) :
    ReturnsInHanded {} Try.checked os 3 .any (Rows.syndromeMakesSpec.pre6 enc Try.prog Try.f3 Rows.syndromeMakesRow.domain false) (Rows.syndromeMakesSpec.post enc Try.prog Try.f3 false true false false) := by
  refine returnsInHanded_of_change (C := Try.checked) own started (by kernel_rfl) Try.func3
    (ChangeSpec.witness6 (enc := enc) (C := Try.checked) false ⟨#[], #[.slice none 0 0, .bool false, .int .i64 0], []⟩ 8 (by kernel_rfl) (by kernel_rfl) (by kernel_rfl) (by kernel_rfl)) ?_
  intro W base args ds gs before hval0 hW hcnd _
  have hval : ∀ (j : Nat) t v, Try.f3.params[j]? = some t → args[j]? = some v → Value.okWide Try.prog W .any base t v := hval0
  have hW' := hW
  have hlt := hW.lt
  obtain ⟨p, q, hA0, hV, rfl, hfz, hnd⟩ := hW
  have hA : DataW.TrodAll enc Try.prog W 0 (fun _ => true) true Try.f3.params.toList args.toList ds p := hA0
  have hAk := hA
  rw [Try.params3] at hA hval
  obtain ⟨v0, vs0, d0, ds0, p0, q0, hargs, rfl, rfl, h0, r0⟩ := trodAll_cons hA
  obtain ⟨v1, vs1, d1, ds1, p1, q1, rfl, rfl, rfl, h1, r1⟩ := trodAll_cons r0
  obtain ⟨v2, vs2, d2, ds2, p2, q2, rfl, rfl, rfl, h2, r2⟩ := trodAll_cons r1
  obtain ⟨rfl, rfl, rfl⟩ := trodAll_nil r2
  obtain rfl : args = #[v0, v1, v2] := by cases args; simp_all
  obtain ⟨rfl, rfl⟩ := trodVars_none hV
  obtain ⟨l0, w0, x0⟩ := open_strs Try.underlying22 Try.underlying9 cellsS (hval 0 22 v0 rfl rfl) h0
  obtain ⟨a1, rfl, rfl, rfl⟩ := open_bool Try.underlying4 (hval 1 4 v1 rfl rfl) h1
  obtain ⟨a2, rfl, rfl, rfl, w2⟩ := open_int Try.underlying3 (hval 2 3 v2 rfl rfl) h2
  clear hA0 hval0
  simp only [List.append_nil] at hW' hAk hlt
  refine (walk W v0 l0 a1 a2 w0 x0 w2).mono fun e W' ⟨he, hg⟩ => ?_
  subst he
  exact ⟨_, rfl, post_kp (pv := []) hW' (fun _ _ _ => (trodAll_cons_mk (shut_bool Try.underlying4 _) trodAll_mk0)) (fun sp hsp => trodAll_stays laidOut (by rw [Try.params3]; exact of_decide_eq_true (by kernel_rfl)) hAk (fun x hx => Below.same hg (hlt x hx)) hsp) (fun _ _ => rfl) (by simp) hg⟩

theorem over : Rows.syndromeMakesRow.holds Try.pinned (OpenSpec.ofChange Rows.syndromeMakesSpec) :=
  OpenClaim.holds_of_wide 3 Try.f3 rfl rfl rfl rfl rfl rfl rfl ⟨rfl, rfl, rfl, rfl, rfl⟩ rfl rfl rfl rfl rfl (by kernel_rfl) Try.func3 (by kernel_rfl)
    (of_decide_eq_true (by kernel_rfl)) (by unfold Func.isWrapper; first | (rw [if_pos (by decide +kernel)]; kernel_rfl) | (rw [if_neg (by decide +kernel)]; exact ⟨rfl, rfl⟩))
    (fun os started H enc _ => lifted os started H enc)

end Go.Proofs.Ytjjghmdkpcbamaa.syndromeMakes
namespace Go.Proofs.Ytjjghmdkpcbamaa
theorem syndromeMakes_holds : Rows.SyndromeMakesSaid := syndromeMakes.over
end Go.Proofs.Ytjjghmdkpcbamaa
