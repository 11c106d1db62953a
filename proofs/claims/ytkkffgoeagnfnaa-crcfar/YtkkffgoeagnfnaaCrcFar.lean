/-
  For every number of 32 bits and every two lengths the law function CrcFar returns true (Go: trunnionlaw06.CrcFar). No condition.
-/
import Derived.Test.YtkkffgoeagnfnaaRows
import Derived.Test.YtkkffgoeagnfnaaBufArgs
import Derived.Test.YtkkffgoeagnfnaaCrcWakes
import Derived.WalkKit
import Derived.ProofKit
import Derived.OpenShut
import Derived.ShutString
namespace Go.Proofs.Ytkkffgoeagnfnaa.crcFar
open Go.ChangeShapes Go.WideShapes Go.ChangeAt Go.RowKit
open Go.ChangeMaps (open_string shut_string)
open Go.Proofs.Ytkkffgoeagnfnaa Plain
set_option linter.unusedVariables false

theorem own : ownKnob Try.prog.godebug = none := by kernel_rfl
theorem laidOut : laidOutB Try.prog = true := by kernel_rfl
theorem mask60 (n : Int) : bits .and .i64 n 1152921504606846975 = n % 1152921504606846976 := by
  have h : (BitVec.ofInt 64 1152921504606846975).toNat = 2 ^ 60 - 1 := by decide
  have key : (BitVec.ofInt 64 n &&& BitVec.ofInt 64 1152921504606846975).toNat = (n % ((2 ^ 64 : Nat) : Int)).toNat % 2 ^ 60 := by
    rw [BitVec.toNat_and, BitVec.toNat_ofInt, h, Nat.and_two_pow_sub_one_eq_mod]
  show IntKind.i64.wrap ((BitVec.ofInt 64 n &&& BitVec.ofInt 64 1152921504606846975).toNat : Nat) = n % 1152921504606846976
  rw [key, IntKind.wrap_i64]
  omega
theorem jv (a : Nat) (n : Nat) : jnV a 0 (n : Int) = jnN a 0 n := by
  by_cases h : n = 0
  · rw [jnV_low _ _ _ (by omega), jn_none a n h]
  · exact jnV_nat a 0 n (by omega)
set_option maxRecDepth 100000 in
set_option maxHeartbeats 4000000 in
theorem walkN (a : Nat) (ha : a < 4294967296) (n0 m0 : Int) (n m : Nat) (hn : bits .and .i64 n0 1152921504606846975 = (n : Int)) (hm : bits .and .i64 m0 1152921504606846975 = (m : Int)) (n9 : n < 1152921504606846976) (m9 : m < 1152921504606846976) (w : World) :
    Calls Try.prog 6 #[.int .u32 a, .int .i64 n0, .int .i64 m0] w fun e w' => e = .returned (.bool true) ∧ Kp w w' := by
  have l1 := jnN_lt a 0 n ha (by omega)
  have HF : Hid (jnN (jnN a 0 n) 0 m = jnN a 0 (n + m)) := jn_far a n m
  have HA : Hid (jnV a 0 (n : Int) = jnN a 0 n) := jv a n
  have HB : Hid (∀ x, jnV x 0 (m : Int) = jnN x 0 m) := fun x => jv x m
  have HC : Hid (jnV a 0 ((n : Int) + (m : Int)) = jnN a 0 (n + m)) := jv a (n + m)
  go_enter Try.func6, Try.ntmps6
  go_wp2_with fail
  refine (wakes_any w).mono ?_; rintro e w1 ⟨rfl, R1, P1⟩
  go_wp2_with fail
  refine (join_any w.heap.size a 0 ha (by omega) n (by omega) _ (Or.inr R1)).mono ?_; rintro e w2 ⟨rfl, R2, T2⟩
  have P2 : Kp w w2 := P1.trd T2.trd (Nat.le_refl _)
  clear T2 R1 P1
  rw [HA.out]
  go_wp2_with fail
  refine (join_any w.heap.size (jnN a 0 n) 0 l1 (by omega) m (by omega) _ (Or.inr R2)).mono ?_; rintro e w3 ⟨rfl, R3, T3⟩
  have P3 : Kp w w3 := P2.trd T3.trd (Nat.le_refl _)
  clear T3 R2 P2
  rw [HB.out, HF.out]
  go_wp2_with fail
  refine (join_any w.heap.size a 0 ha (by omega) ((n : Int) + (m : Int)) (by omega) _ (Or.inr R3)).mono ?_; rintro e w4 ⟨rfl, R4, T4⟩
  have P4 : Kp w w4 := P3.trd T4.trd (Nat.le_refl _)
  clear T4 R3 P3
  rw [HC.out]
  by_cases h1 : n < 1
  · have h1I : (n : Int) < 1 := by omega
    go_wp2
    go_ret
    exact ⟨rfl, P4⟩
  have h1I : ¬ (n : Int) < 1 := by omega
  have HD : Hid (jnV a 5 (n : Int) = jnN a 0 n ^^^ 5) := by show _ = _; rw [jnV_nat a 5 n (by omega), jn_more]
  have HX : Hid (bits .xor .u32 ((jnN a 0 n : Nat) : Int) 5 = ((jnN a 0 n ^^^ 5 : Nat) : Int)) := u32_xor_nat _ 5 l1 (by omega)
  go_wp2_with fail
  refine (join_any w.heap.size a 5 ha (by omega) n (by omega) _ (Or.inr R4)).mono ?_; rintro e w5 ⟨rfl, R5, T5⟩
  have P5 : Kp w w5 := P4.trd T5.trd (Nat.le_refl _)
  clear T5 R4 P4
  rw [HD.out]
  go_wp2_with fail
  refine (join_any w.heap.size a 0 ha (by omega) n (by omega) _ (Or.inr R5)).mono ?_; rintro e w6 ⟨rfl, R6, T6⟩
  have P6 : Kp w w6 := P5.trd T6.trd (Nat.le_refl _)
  clear T6 R5 P5
  rw [HA.out]
  have hx := HX.out
  go_wp2
  go_ret
  exact ⟨rfl, P6⟩
theorem walk (w : World) (a0 : Int) (a1 : Int) (a2 : Int) (w0 : (Lit.int .u32 a0).wf = true) (w1 : (Lit.int .i64 a1).wf = true) (w2 : (Lit.int .i64 a2).wf = true) :
    Calls Try.prog 6 #[.int .u32 a0, .int .i64 a1, .int .i64 a2] w fun e w' => e = .returned (.bool true) ∧ Kp w w' := by
  have h0 := bounds_u32 w0
  obtain ⟨n0, rfl⟩ : ∃ n : Nat, a0 = n := ⟨a0.toNat, by omega⟩
  have k1 := mask60 a1
  have k2 := mask60 a2
  exact walkN n0 (by omega) a1 a2 (a1 % 1152921504606846976).toNat (a2 % 1152921504606846976).toNat (by omega) (by omega) (by omega) (by omega) w

set_option maxRecDepth 100000 in
theorem lifted (os : Os) (started : os.Started) (H : Type) (enc : TypeId × Value → H) :
    ReturnsInHanded {} Try.checked os 6 .any (Rows.crcFarSpec.pre6 enc Try.prog Try.f6 Rows.crcFarRow.domain false) (Rows.crcFarSpec.post enc Try.prog Try.f6 false true false false) := by
  refine returnsInHanded_of_change (C := Try.checked) own started (by kernel_rfl) Try.func6
    (ChangeSpec.witness6 (enc := enc) (C := Try.checked) false ⟨#[], #[.int .u32 0, .int .i64 0, .int .i64 0], []⟩ 8 (by kernel_rfl) (by kernel_rfl) (by kernel_rfl) (by kernel_rfl)) ?_
  intro W base args ds gs before hval0 hW hcnd _
  have hval : ∀ (j : Nat) t v, Try.f6.params[j]? = some t → args[j]? = some v → Value.okWide Try.prog W .any base t v := hval0
  have hW' := hW
  have hlt := hW.lt
  obtain ⟨p, q, hA0, hV, rfl, hfz, hnd⟩ := hW
  have hA : DataW.TrodAll enc Try.prog W 0 (fun _ => true) true Try.f6.params.toList args.toList ds p := hA0
  have hAk := hA
  rw [Try.params6] at hA hval
  obtain ⟨v0, vs0, d0, ds0, p0, q0, hargs, rfl, rfl, h0, r0⟩ := trodAll_cons hA
  obtain ⟨v1, vs1, d1, ds1, p1, q1, rfl, rfl, rfl, h1, r1⟩ := trodAll_cons r0
  obtain ⟨v2, vs2, d2, ds2, p2, q2, rfl, rfl, rfl, h2, r2⟩ := trodAll_cons r1
  obtain ⟨rfl, rfl, rfl⟩ := trodAll_nil r2
  obtain rfl : args = #[v0, v1, v2] := by cases args; simp_all
  obtain ⟨rfl, rfl⟩ := trodVars_none hV
  obtain ⟨a0, rfl, rfl, rfl, w0⟩ := open_int Try.underlying22 (hval 0 22 v0 rfl rfl) h0
  obtain ⟨a1, rfl, rfl, rfl, w1⟩ := open_int Try.underlying3 (hval 1 3 v1 rfl rfl) h1
  obtain ⟨a2, rfl, rfl, rfl, w2⟩ := open_int Try.underlying3 (hval 2 3 v2 rfl rfl) h2
  clear hA0 hval0
  simp only [List.append_nil] at hW' hAk hlt
  refine (walk W a0 a1 a2 w0 w1 w2).mono fun e W' ⟨he, hg⟩ => ?_
  subst he
  exact ⟨_, rfl, post_kp (pv := []) hW' (fun _ _ _ => (trodAll_cons_mk (shut_bool Try.underlying4 _) trodAll_mk0)) (fun sp hsp => trodAll_stays laidOut (by rw [Try.params6]; exact of_decide_eq_true (by kernel_rfl)) hAk (fun x hx => Below.same hg (hlt x hx)) hsp) (fun _ _ => rfl) (by simp) hg⟩

theorem over : Rows.crcFarRow.holds Try.pinned (OpenSpec.ofChange Rows.crcFarSpec) :=
  OpenClaim.holds_of_wide 6 Try.f6 rfl rfl rfl rfl rfl rfl rfl ⟨rfl, rfl, rfl, rfl, rfl⟩ rfl rfl rfl rfl rfl (by kernel_rfl) Try.func6 (by kernel_rfl)
    (of_decide_eq_true (by kernel_rfl)) (by unfold Func.isWrapper; first | (rw [if_pos (by decide +kernel)]; kernel_rfl) | (rw [if_neg (by decide +kernel)]; exact ⟨rfl, rfl⟩))
    (fun os started H enc _ => lifted os started H enc)

end Go.Proofs.Ytkkffgoeagnfnaa.crcFar
namespace Go.Proofs.Ytkkffgoeagnfnaa
theorem crcFar_holds : Rows.CrcFarSaid := crcFar.over
end Go.Proofs.Ytkkffgoeagnfnaa
