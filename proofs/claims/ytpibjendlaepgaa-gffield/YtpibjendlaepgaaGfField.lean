/-
  For every three bytes the law function GfField returns true (Go: trunnionlaw02.GfField). No condition.
-/
import Derived.Test.YtpibjendlaepgaaRows
import Derived.Test.YtpibjendlaepgaaWakes2
import Derived.WalkKit
import Derived.ProofKit
import Derived.OpenShut
import Derived.ShutString
import Derived.WideKeyPair
namespace Go.Proofs.Ytpibjendlaepgaa.gfField
open Go.ChangeShapes Go.WideShapes Go.ChangeAt Go.RowKit
open Go.ChangeMaps (open_string shut_string)
open Go.WideMaps (ArrKey open_pair shut_pair)
open Go.Proofs.Ytpibjendlaepgaa Plain
set_option linter.unusedVariables false

theorem own : ownKnob Try.prog.godebug = none := by kernel_rfl
set_option maxRecDepth 100000 in
set_option maxHeartbeats 4000000 in
theorem walkN (x y z : Nat) (hx : x < 256) (hy : y < 256) (hz : z < 256) (w : World) :
    Calls Try.prog 6 #[.int .u8 x, .int .u8 y, .int .u8 z] w fun e w' => e = .returned (.bool true) ∧ Grown w w' := by
  have hyz := ml_lt y z hy
  have hxy := ml_lt x y hx
  have hxz := ml_lt x z hx
  have hs := xor_lt y z hy hz
  have hd := dvV_lt x y
  have q1 : ((((ml x (ml y z)) : Nat) : Int) == (((ml (ml x y) z) : Nat) : Int)) = true := by rw [ml_assoc x y z hx hy hz]; simp
  have q2 : ((((ml x y) : Nat) : Int) == (((ml y x) : Nat) : Int)) = true := by rw [ml_comm x y hx hy]; simp
  have q4 : ((((ml x 1) : Nat) : Int) == (((x) : Nat) : Int)) = true := by rw [ml_one x hx]; simp
  have rx : bits .xor .u8 (y : Int) (z : Int) = ((y ^^^ z : Nat) : Int) := u8_xor_nat y z hy hz
  have ry : bits .xor .u8 (ml x y : Int) (ml x z : Int) = ((ml x (y ^^^ z) : Nat) : Int) := by rw [u8_xor_nat _ _ hxy hxz, ml_sum]
  go_enter Try.func6, Try.ntmps6
  go_wp2_with fail
  refine (wakes_any w).mono ?_; rintro e w1 ⟨rfl, R1, P1⟩
  have B : w.heap.size ≤ w.heap.size := Nat.le_refl _
  go_wp2_with fail
  refine (fdiv_any w.heap.size x y hx hy _ (Or.inr R1)).mono ?_; rintro e w2 ⟨rfl, R2, T2⟩
  have P2 : Past w w2 := P1.turned T2 (Nat.le_refl _)
  clear T2 R1 P1
  go_wp2_with fail
  refine (fmul_any w.heap.size y z hy hz _ (Or.inr R2)).mono ?_; rintro e w3 ⟨rfl, R3, T3⟩
  have P3 : Past w w3 := P2.turned T3 (Nat.le_refl _)
  clear T3 R2 P2
  go_wp2_with fail
  refine (fmul_any w.heap.size x _ hx hyz _ (Or.inr R3)).mono ?_; rintro e w4 ⟨rfl, R4, T4⟩
  have P4 : Past w w4 := P3.turned T4 (Nat.le_refl _)
  clear T4 R3 P3
  go_wp2_with fail
  refine (fmul_any w.heap.size x y hx hy _ (Or.inr R4)).mono ?_; rintro e w5 ⟨rfl, R5, T5⟩
  have P5 : Past w w5 := P4.turned T5 (Nat.le_refl _)
  clear T5 R4 P4
  go_wp2_with fail
  refine (fmul_any w.heap.size _ z hxy hz _ (Or.inr R5)).mono ?_; rintro e w6 ⟨rfl, R6, T6⟩
  have P6 : Past w w6 := P5.turned T6 (Nat.le_refl _)
  clear T6 R5 P5
  go_wp2_with fail
  refine (fmul_any w.heap.size x y hx hy _ (Or.inr R6)).mono ?_; rintro e w7 ⟨rfl, R7, T7⟩
  have P7 : Past w w7 := P6.turned T7 (Nat.le_refl _)
  clear T7 R6 P6
  go_wp2_with fail
  refine (fmul_any w.heap.size y x hy hx _ (Or.inr R7)).mono ?_; rintro e w8 ⟨rfl, R8, T8⟩
  have P8 : Past w w8 := P7.turned T8 (Nat.le_refl _)
  clear T8 R7 P7
  go_wp2_with fail
  refine (fmul_any w.heap.size x (y ^^^ z) hx hs _ (Or.inr R8)).mono ?_; rintro e w9 ⟨rfl, R9, T9⟩
  have P9 : Past w w9 := P8.turned T9 (Nat.le_refl _)
  clear T9 R8 P8
  go_wp2_with fail
  refine (fmul_any w.heap.size x y hx hy _ (Or.inr R9)).mono ?_; rintro e w10 ⟨rfl, R10, T10⟩
  have P10 : Past w w10 := P9.turned T10 (Nat.le_refl _)
  clear T10 R9 P9
  go_wp2_with fail
  refine (fmul_any w.heap.size x z hx hz _ (Or.inr R10)).mono ?_; rintro e w11 ⟨rfl, R11, T11⟩
  have P11 : Past w w11 := P10.turned T11 (Nat.le_refl _)
  clear T11 R10 P10
  go_wp2_with fail
  refine (fmul_any w.heap.size x 1 hx (by omega) _ (Or.inr R11)).mono ?_; rintro e w12 ⟨rfl, R12, T12⟩
  have P12 : Past w w12 := P11.turned T12 (Nat.le_refl _)
  clear T12 R11 P11
  by_cases h0 : y = 0
  · have e5 : erV y = 5 := by rw [h0]; rfl
    have ey : ((y : Int) == 0) = true := by simp; omega
    clear h0
    go_wp2
    all_goals first
      | exact absurd ‹some undef = some (Value.bool _)› (by intro hh; cases hh)
      | (go_ret; exact ⟨rfl, P12.grown⟩)
  have ey : ((y : Int) == 0) = false := by simp; omega
  have en : ((y : Int) != 0) = true := by simp; omega
  have e0 : erV y = 0 := erV_pos y h0
  have q5 : ((((ml (dvV x y) y) : Nat) : Int) == (((x) : Nat) : Int)) = true := by rw [dvV_pos x y h0, dv_back x y hx hy h0]; simp
  clear h0
  go_wp2_with fail
  refine (fmul_any w.heap.size _ y hd hy _ (Or.inr R12)).mono ?_; rintro e w13 ⟨rfl, R13, T13⟩
  have P13 : Past w w13 := P12.turned T13 (Nat.le_refl _)
  clear T13 R12 P12
  go_wp2
  go_ret
  exact ⟨rfl, P13.grown⟩
theorem walk (a0 : Int) (a1 : Int) (a2 : Int) (w0 : (Lit.int .u8 a0).wf = true) (w1 : (Lit.int .u8 a1).wf = true) (w2 : (Lit.int .u8 a2).wf = true) (w : World) :
    Calls Try.prog 6 #[.int .u8 a0, .int .u8 a1, .int .u8 a2] w fun e w' => e = .returned (.bool true) ∧ Grown w w' := by
  have h0 := bounds_u8 w0
  have h1 := bounds_u8 w1
  have h2 := bounds_u8 w2
  obtain ⟨n0, rfl⟩ : ∃ n : Nat, a0 = n := ⟨a0.toNat, by omega⟩
  obtain ⟨n1, rfl⟩ : ∃ n : Nat, a1 = n := ⟨a1.toNat, by omega⟩
  obtain ⟨n2, rfl⟩ : ∃ n : Nat, a2 = n := ⟨a2.toNat, by omega⟩
  exact walkN n0 n1 n2 (by omega) (by omega) (by omega) w

set_option maxRecDepth 100000 in
theorem lifted (os : Os) (started : os.Started) (H : Type) (enc : TypeId × Value → H) :
    ReturnsInHanded {} Try.checked os 6 .any (Rows.gfFieldSpec.pre6 enc Try.prog Try.f6 Rows.gfFieldRow.domain false) (Rows.gfFieldSpec.post enc Try.prog Try.f6 false true false false) := by
  refine returnsInHanded_of_change (C := Try.checked) own started (by kernel_rfl) Try.func6
    (ChangeSpec.witness6 (enc := enc) (C := Try.checked) false ⟨#[], #[.int .u8 0, .int .u8 0, .int .u8 0], []⟩ 8 (by kernel_rfl) (by kernel_rfl) (by kernel_rfl) (by kernel_rfl)) ?_
  intro W base args ds gs before hval0 hW hcnd _
  have hval : ∀ (j : Nat) t v, Try.f6.params[j]? = some t → args[j]? = some v → Value.okWide Try.prog W .any base t v := hval0
  have hW' := hW
  obtain ⟨p, q, hA0, hV, rfl, hfz, hnd⟩ := hW
  have hA : DataW.TrodAll enc Try.prog W 0 (fun _ => true) true Try.f6.params.toList args.toList ds p := hA0
  rw [Try.params6] at hA hval
  obtain ⟨v0, vs0, d0, ds0, p0, q0, hargs, rfl, rfl, h0, r0⟩ := trodAll_cons hA
  obtain ⟨v1, vs1, d1, ds1, p1, q1, rfl, rfl, rfl, h1, r1⟩ := trodAll_cons r0
  obtain ⟨v2, vs2, d2, ds2, p2, q2, rfl, rfl, rfl, h2, r2⟩ := trodAll_cons r1
  obtain ⟨rfl, rfl, rfl⟩ := trodAll_nil r2
  obtain rfl : args = #[v0, v1, v2] := by cases args; simp_all
  obtain ⟨rfl, rfl⟩ := trodVars_none hV
  obtain ⟨a0, rfl, rfl, rfl, w0⟩ := open_int Try.underlying5 (hval 0 5 v0 rfl rfl) h0
  obtain ⟨a1, rfl, rfl, rfl, w1⟩ := open_int Try.underlying5 (hval 1 5 v1 rfl rfl) h1
  obtain ⟨a2, rfl, rfl, rfl, w2⟩ := open_int Try.underlying5 (hval 2 5 v2 rfl rfl) h2
  clear hA0 hval0
  simp only [List.append_nil] at hW'
  refine (walk a0 a1 a2 w0 w1 w2 W).mono fun e W' ⟨he, hg⟩ => ?_
  subst he
  exact ⟨_, rfl, post_of_same (pa := []) (pv := []) hW' (fun _ _ _ => (trodAll_cons_mk (shut_bool Try.underlying4 _) trodAll_mk0)) (fun sp _ => (trodAll_cons_mk (shut_int Try.underlying5 w0) (trodAll_cons_mk (shut_int Try.underlying5 w1) (trodAll_cons_mk (shut_int Try.underlying5 w2) trodAll_mk0)))) (fun _ _ => rfl) rfl
    (hg.frame _) hg.2.1 (ok_one (by kernel_rfl) rfl (okWide_bool_mk Try.underlying4 _))⟩

theorem over : Rows.gfFieldRow.holds Try.pinned (OpenSpec.ofChange Rows.gfFieldSpec) :=
  OpenClaim.holds_of_wide 6 Try.f6 rfl rfl rfl rfl rfl rfl rfl ⟨rfl, rfl, rfl, rfl, rfl⟩ rfl rfl rfl rfl rfl (by kernel_rfl) Try.func6 (by kernel_rfl)
    (of_decide_eq_true (by kernel_rfl)) (by unfold Func.isWrapper; first | (rw [if_pos (by decide +kernel)]; kernel_rfl) | (rw [if_neg (by decide +kernel)]; exact ⟨rfl, rfl⟩))
    (fun os started H enc _ => lifted os started H enc)

end Go.Proofs.Ytpibjendlaepgaa.gfField
namespace Go.Proofs.Ytpibjendlaepgaa
theorem gfField_holds : Rows.GfFieldSaid := gfField.over
end Go.Proofs.Ytpibjendlaepgaa
