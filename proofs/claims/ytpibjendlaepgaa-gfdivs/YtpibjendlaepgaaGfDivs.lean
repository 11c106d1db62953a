/-
  For every two bytes and every number the law function GfDivs returns true (Go: trunnionlaw02.GfDivs). No condition.
-/
import Derived.Test.YtpibjendlaepgaaRows
import Derived.Test.YtpibjendlaepgaaRef2
import Derived.WalkKit
import Derived.ProofKit
import Derived.OpenShut
import Derived.ShutString
import Derived.WideKeyPair
namespace Go.Proofs.Ytpibjendlaepgaa.gfDivs
open Go.ChangeShapes Go.WideShapes Go.ChangeAt Go.RowKit
open Go.ChangeMaps (open_string shut_string)
open Go.WideMaps (ArrKey open_pair shut_pair)
open Go.Proofs.Ytpibjendlaepgaa Plain
set_option linter.unusedVariables false

theorem own : ownKnob Try.prog.godebug = none := by kernel_rfl
set_option maxRecDepth 100000 in
set_option maxHeartbeats 4000000 in
theorem walkN (x y : Nat) (hx : x < 256) (hy : y < 256) (n : Int) (w : World) :
    Calls Try.prog 4 #[.int .u8 x, .int .u8 y, .int .i64 n] w fun e w' => e = .returned (.bool true) ∧ Grown w w' := by
  have hd := dvV_lt x y
  have hl := lgV_lt x hx
  go_enter Try.func4, Try.ntmps4
  go_wp2_with fail
  refine (wakes_any w).mono ?_; rintro e w1 ⟨rfl, R1, P1⟩
  have B : w.heap.size ≤ w.heap.size := Nat.le_refl _
  go_wp2_with fail
  refine (fdiv_any w.heap.size x y hx hy _ (Or.inr R1)).mono ?_; rintro e w2 ⟨rfl, R2, T2⟩
  have P2 : Past w w2 := P1.turned T2 (Nat.le_refl _)
  clear T2 R1 P1
  go_wp2_with fail
  refine (rdiv_any x y hx hy _).mono ?_; rintro e w3 ⟨rfl, T3⟩
  have P3 : Past w w3 := P2.ext T3
  have R3 : Ready w3 w.heap.size := FieldIn.ext R2 T3
  clear T3 R2 P2
  go_wp2_with fail
  refine (flog_any w.heap.size x hx _ (Or.inr R3)).mono ?_; rintro e w4 ⟨rfl, R4, T4⟩
  have P4 : Past w w4 := P3.turned T4 (Nat.le_refl _)
  clear T4 R3 P3
  go_wp2_with fail
  refine (rlog_any x hx _).mono ?_; rintro e w5 ⟨rfl, T5⟩
  have P5 : Past w w5 := P4.ext T5
  have R5 : Ready w5 w.heap.size := FieldIn.ext R4 T5
  clear T5 R4 P4
  go_wp2_with fail
  refine (fexp_any w.heap.size n _ (Or.inr R5)).mono ?_; rintro e w6 ⟨rfl, R6, T6⟩
  have P6 : Past w w6 := P5.turned T6 (Nat.le_refl _)
  clear T6 R5 P5
  go_wp2_with fail
  refine (rexp_any n _).mono ?_; rintro e w7 ⟨rfl, T7⟩
  have P7 : Past w w7 := P6.ext T7
  have R7 : Ready w7 w.heap.size := FieldIn.ext R6 T7
  clear T7 R6 P6
  go_wp2
  go_ret
  exact ⟨rfl, P7.grown⟩
theorem walk (a0 : Int) (a1 : Int) (a2 : Int) (w0 : (Lit.int .u8 a0).wf = true) (w1 : (Lit.int .u8 a1).wf = true) (w2 : (Lit.int .i64 a2).wf = true) (w : World) :
    Calls Try.prog 4 #[.int .u8 a0, .int .u8 a1, .int .i64 a2] w fun e w' => e = .returned (.bool true) ∧ Grown w w' := by
  have h0 := bounds_u8 w0
  have h1 := bounds_u8 w1
  obtain ⟨n0, rfl⟩ : ∃ n : Nat, a0 = n := ⟨a0.toNat, by omega⟩
  obtain ⟨n1, rfl⟩ : ∃ n : Nat, a1 = n := ⟨a1.toNat, by omega⟩
  exact walkN n0 n1 (by omega) (by omega) a2 w

set_option maxRecDepth 100000 in
theorem lifted (os : Os) (started : os.Started) (H : Type) (enc : TypeId × Value → H) :
    ReturnsInHanded {} Try.checked os 4 .any (Rows.gfDivsSpec.pre6 enc Try.prog Try.f4 Rows.gfDivsRow.domain false) (Rows.gfDivsSpec.post enc Try.prog Try.f4 false true false false) := by
  refine returnsInHanded_of_change (C := Try.checked) own started (by kernel_rfl) Try.func4
    (ChangeSpec.witness6 (enc := enc) (C := Try.checked) false ⟨#[], #[.int .u8 0, .int .u8 0, .int .i64 0], []⟩ 8 (by kernel_rfl) (by kernel_rfl) (by kernel_rfl) (by kernel_rfl)) ?_
  intro W base args ds gs before hval0 hW hcnd _
  have hval : ∀ (j : Nat) t v, Try.f4.params[j]? = some t → args[j]? = some v → Value.okWide Try.prog W .any base t v := hval0
  have hW' := hW
  obtain ⟨p, q, hA0, hV, rfl, hfz, hnd⟩ := hW
  have hA : DataW.TrodAll enc Try.prog W 0 (fun _ => true) true Try.f4.params.toList args.toList ds p := hA0
  rw [Try.params4] at hA hval
  obtain ⟨v0, vs0, d0, ds0, p0, q0, hargs, rfl, rfl, h0, r0⟩ := trodAll_cons hA
  obtain ⟨v1, vs1, d1, ds1, p1, q1, rfl, rfl, rfl, h1, r1⟩ := trodAll_cons r0
  obtain ⟨v2, vs2, d2, ds2, p2, q2, rfl, rfl, rfl, h2, r2⟩ := trodAll_cons r1
  obtain ⟨rfl, rfl, rfl⟩ := trodAll_nil r2
  obtain rfl : args = #[v0, v1, v2] := by cases args; simp_all
  obtain ⟨rfl, rfl⟩ := trodVars_none hV
  obtain ⟨a0, rfl, rfl, rfl, w0⟩ := open_int Try.underlying5 (hval 0 5 v0 rfl rfl) h0
  obtain ⟨a1, rfl, rfl, rfl, w1⟩ := open_int Try.underlying5 (hval 1 5 v1 rfl rfl) h1
  obtain ⟨a2, rfl, rfl, rfl, w2⟩ := open_int Try.underlying3 (hval 2 3 v2 rfl rfl) h2
  clear hA0 hval0
  simp only [List.append_nil] at hW'
  refine (walk a0 a1 a2 w0 w1 w2 W).mono fun e W' ⟨he, hg⟩ => ?_
  subst he
  exact ⟨_, rfl, post_of_same (pa := []) (pv := []) hW' (fun _ _ _ => (trodAll_cons_mk (shut_bool Try.underlying4 _) trodAll_mk0)) (fun sp _ => (trodAll_cons_mk (shut_int Try.underlying5 w0) (trodAll_cons_mk (shut_int Try.underlying5 w1) (trodAll_cons_mk (shut_int Try.underlying3 w2) trodAll_mk0)))) (fun _ _ => rfl) rfl
    (hg.frame _) hg.2.1 (ok_one (by kernel_rfl) rfl (okWide_bool_mk Try.underlying4 _))⟩

theorem over : Rows.gfDivsRow.holds Try.pinned (OpenSpec.ofChange Rows.gfDivsSpec) :=
  OpenClaim.holds_of_wide 4 Try.f4 rfl rfl rfl rfl rfl rfl rfl ⟨rfl, rfl, rfl, rfl, rfl⟩ rfl rfl rfl rfl rfl (by kernel_rfl) Try.func4 (by kernel_rfl)
    (of_decide_eq_true (by kernel_rfl)) (by unfold Func.isWrapper; first | (rw [if_pos (by decide +kernel)]; kernel_rfl) | (rw [if_neg (by decide +kernel)]; exact ⟨rfl, rfl⟩))
    (fun os started H enc _ => lifted os started H enc)

end Go.Proofs.Ytpibjendlaepgaa.gfDivs
namespace Go.Proofs.Ytpibjendlaepgaa
theorem gfDivs_holds : Rows.GfDivsSaid := gfDivs.over
end Go.Proofs.Ytpibjendlaepgaa
