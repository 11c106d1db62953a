/-
  For every list of texts the law function BulkAdds returns true (Go: trunnionlaw03.BulkAdds). No condition.
-/
import Derived.Test.YtaiohofddlomlaaRows
import Derived.Test.YtaiohofddlomlaaBufArgs
import Derived.Test.YtaiohofddlomlaaBufFit
import Derived.WalkKit
import Derived.ProofKit
import Derived.OpenShut
import Derived.ShutString
import Derived.BigQuiet
import Derived.Deep.RegionWith
import Derived.Deep.DeepCutAuto
namespace Go.Proofs.Ytaiohofddlomlaa.bulkAdds
open Go.ChangeShapes Go.WideShapes Go.ChangeAt Go.RowKit
open Go.ChangeMaps (open_string shut_string)
open Go.Proofs.Ytaiohofddlomlaa Plain Go.BigFrame
set_option linter.unusedVariables false

theorem own : ownKnob Try.prog.godebug = none := by kernel_rfl
theorem laidOut : laidOutB Try.prog = true := by kernel_rfl
theorem cellsS : Try.prog.cellsOf 9 = 1 := by kernel_rfl
theorem walk (w : World) (a0 : Value) (l0 : List ByteArray) (a1 : Bool) (w0 : StrsIn w a0 l0) (x0 : ∀ i, i < l0.length → (l0.getD i noS).size ≤ maxLen) :
    Calls Try.prog 3 #[a0, .bool a1] w fun e w' => e = .returned (.bool true) ∧ Kp w w' := by
  go_enter Try.func3, Try.ntmps3
  go_wp2_with fail
  refine (cut_any a1 a0 l0 x0 w w0).mono ?_; rintro e w1 ⟨v, rfl, hS, K1⟩
  have hL := cutL_small a1 l0 (min l0.length 12)
  obtain ⟨L, hLe⟩ : ∃ L, L = cutL a1 l0 (min l0.length 12) := ⟨_, rfl⟩
  rw [← hLe] at hS hL
  clear hLe w0
  go_wp2_with fail
  refine (add_any v L hL w1 hS).mono ?_; rintro e w2 ⟨rfl, k2⟩
  have K2 := K1.trans k2
  have hS2 := hS.kept k2
  clear k2 hS K1
  go_wp2_with fail
  refine (radd_any v L hL w2 hS2).mono ?_; rintro e w3 ⟨rfl, k3⟩
  have K3 := K2.trans k3
  clear k3 hS2 K2
  go_wp2_with fail
  refine (wakes_any w3).mono ?_; rintro e wz ⟨rfl, kz⟩
  have KZ := K3.trans kz
  clear kz
  go_wp2
  go_ret
  exact ⟨rfl, KZ⟩

set_option maxRecDepth 100000 in
theorem lifted (os : Os) (started : os.Started) (H : Type) (enc : TypeId × Value → H) :
    ReturnsInHanded {} Try.checked os 3 .any (Rows.bulkAddsSpec.pre6 enc Try.prog Try.f3 Rows.bulkAddsRow.domain false) (Rows.bulkAddsSpec.post enc Try.prog Try.f3 false true false false) := by
  refine returnsInHanded_of_change (C := Try.checked) own started (by kernel_rfl) Try.func3
    (ChangeSpec.witness6 (enc := enc) (C := Try.checked) false ⟨#[], #[.slice none 0 0, .bool false], []⟩ 8 (by kernel_rfl) (by kernel_rfl) (by kernel_rfl) (by kernel_rfl)) ?_
  intro W base args ds gs before hval0 hW hcnd _
  have hval : ∀ (j : Nat) t v, Try.f3.params[j]? = some t → args[j]? = some v → Value.okWide Try.prog W .any base t v := hval0
  have hW' := hW
  have hlt := hW.lt
  obtain ⟨p, q, hA0, hV, rfl, hfz, hnd⟩ := hW
  have hA : DataW.TrodAll enc Try.prog W 0 (fun _ => true) true Try.f3.params.toList args.toList ds p := hA0
  have hAk := hA
  rw [Try.params3] at hA hval
  obtain ⟨v0, vs0, d0, ds0, p0, q0, hargs, rfl, rfl, h0, r0⟩ := trodAll_cons hA
  obtain ⟨v1, vs1, d1, ds1, p1, q1, rfl, rfl, rfl, h1, r1⟩ := trodAll_cons r0
  obtain ⟨rfl, rfl, rfl⟩ := trodAll_nil r1
  obtain rfl : args = #[v0, v1] := by cases args; simp_all
  obtain ⟨rfl, rfl⟩ := trodVars_none hV
  obtain ⟨l0, w0, x0⟩ := open_strs Try.underlying22 Try.underlying9 cellsS (hval 0 22 v0 rfl rfl) h0
  obtain ⟨a1, rfl, rfl, rfl⟩ := open_bool Try.underlying4 (hval 1 4 v1 rfl rfl) h1
  clear hA0 hval0
  simp only [List.append_nil] at hW' hAk hlt
  refine (walk W v0 l0 a1 w0 x0).mono fun e W' ⟨he, hg⟩ => ?_
  subst he
  exact ⟨_, rfl, post_kp (pv := []) hW' (fun _ _ _ => (trodAll_cons_mk (shut_bool Try.underlying4 _) trodAll_mk0)) (fun sp hsp => trodAll_stays laidOut (by rw [Try.params3]; exact of_decide_eq_true (by kernel_rfl)) hAk (fun x hx => Below.same hg (hlt x hx)) hsp) (fun _ _ => rfl) (by simp) hg⟩

theorem over : Rows.bulkAddsRow.holds Try.pinned (OpenSpec.ofChange Rows.bulkAddsSpec) :=
  OpenClaim.holds_of_wide 3 Try.f3 rfl rfl rfl rfl rfl rfl rfl ⟨rfl, rfl, rfl, rfl, rfl⟩ rfl rfl rfl rfl rfl (by kernel_rfl) Try.func3 (by kernel_rfl)
    (of_decide_eq_true (by kernel_rfl)) (by unfold Func.isWrapper; first | (rw [if_pos (by decide +kernel)]; kernel_rfl) | (rw [if_neg (by decide +kernel)]; exact ⟨rfl, rfl⟩))
    (fun os started H enc _ => lifted os started H enc)

end Go.Proofs.Ytaiohofddlomlaa.bulkAdds
namespace Go.Proofs.Ytaiohofddlomlaa
theorem bulkAdds_holds : Rows.BulkAddsSaid := bulkAdds.over
end Go.Proofs.Ytaiohofddlomlaa
