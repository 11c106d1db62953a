/-
  For every byte and every two numbers the law function GfPowers returns true (Go: trunnionlaw02.GfPowers). No condition.
-/
import Derived.Test.YtpibjendlaepgaaRows
import Derived.Test.YtpibjendlaepgaaWakes2
import Derived.WalkKit
import Derived.ProofKit
import Derived.OpenShut
import Derived.ShutString
import Derived.WideKeyPair
namespace Go.Proofs.Ytpibjendlaepgaa.gfPowers
open Go.ChangeShapes Go.WideShapes Go.ChangeAt Go.RowKit
open Go.ChangeMaps (open_string shut_string)
open Go.WideMaps (ArrKey open_pair shut_pair)
open Go.Proofs.Ytpibjendlaepgaa Plain
set_option linter.unusedVariables false

theorem own : ownKnob Try.prog.godebug = none := by kernel_rfl
theorem mask16 (n : Int) : bits .and .i64 n 65535 = n % 65536 := by
  have h : (BitVec.ofInt 64 65535).toNat = 2 ^ 16 - 1 := by decide
  have key : (BitVec.ofInt 64 n &&& BitVec.ofInt 64 65535).toNat = (n % ((2 ^ 64 : Nat) : Int)).toNat % 2 ^ 16 := by
    rw [BitVec.toNat_and, BitVec.toNat_ofInt, h, Nat.and_two_pow_sub_one_eq_mod]
  show IntKind.i64.wrap ((BitVec.ofInt 64 n &&& BitVec.ofInt 64 65535).toNat : Nat) = n % 65536
  rw [key, IntKind.wrap_i64]
  omega
set_option maxRecDepth 100000 in
set_option maxHeartbeats 4000000 in
theorem walkN (x : Nat) (hx : x < 256) (m0 n0 m n : Int) (hm : bits .and .i64 m0 65535 = m + 32768) (hn : bits .and .i64 n0 65535 = n + 32768) (m1 : -32768 ≤ m) (m2 : m < 32768) (n1 : -32768 ≤ n) (n2 : n < 32768) (w : World) :
    Calls Try.prog 7 #[.int .u8 x, .int .i64 m0, .int .i64 n0] w fun e w' => e = .returned (.bool true) ∧ Grown w w' := by
  have hem := exN_lt m
  have hen := exN_lt n
  have hl := lgV_lt x hx
  have q1 : ((((ml (exN m) (exN n)) : Nat) : Int) == (((exN (m + n)) : Nat) : Int)) = true := by rw [exN_add m n]; simp
  have q2 : ((((exN (m + 255)) : Nat) : Int) == (((exN m) : Nat) : Int)) = true := by rw [exN_255 m]; simp
  go_enter Try.func7, Try.ntmps7
  go_wp2_with fail
  refine (wakes_any w).mono ?_; rintro e w1 ⟨rfl, R1, P1⟩
  have B : w.heap.size ≤ w.heap.size := Nat.le_refl _
  go_wp2_with fail
  refine (flog_any w.heap.size x hx _ (Or.inr R1)).mono ?_; rintro e w2 ⟨rfl, R2, T2⟩
  have P2 : Past w w2 := P1.turned T2 (Nat.le_refl _)
  clear T2 R1 P1
  by_cases h0 : x = 0
  · have e5 : erV x = 5 := by rw [h0]; rfl
    have ey : ((x : Int) == 0) = true := by simp; omega
    clear h0
    go_wp2_with fail
    refine (fexp_any w.heap.size m _ (Or.inr R2)).mono ?_; rintro e w3 ⟨rfl, R3, T3⟩
    have P3 : Past w w3 := P2.turned T3 (Nat.le_refl _)
    clear T3 R2 P2
    go_wp2_with fail
    refine (fexp_any w.heap.size n _ (Or.inr R3)).mono ?_; rintro e w4 ⟨rfl, R4, T4⟩
    have P4 : Past w w4 := P3.turned T4 (Nat.le_refl _)
    clear T4 R3 P3
    go_wp2_with fail
    refine (fmul_any w.heap.size _ _ hem hen _ (Or.inr R4)).mono ?_; rintro e w5 ⟨rfl, R5, T5⟩
    have P5 : Past w w5 := P4.turned T5 (Nat.le_refl _)
    clear T5 R4 P4
    go_wp2_with fail
    refine (fexp_any w.heap.size (m + n) _ (Or.inr R5)).mono ?_; rintro e w6 ⟨rfl, R6, T6⟩
    have P6 : Past w w6 := P5.turned T6 (Nat.le_refl _)
    clear T6 R5 P5
    go_wp2_with fail
    refine (fexp_any w.heap.size (m + 255) _ (Or.inr R6)).mono ?_; rintro e w7 ⟨rfl, R7, T7⟩
    have P7 : Past w w7 := P6.turned T7 (Nat.le_refl _)
    clear T7 R6 P6
    go_wp2_with fail
    refine (fexp_any w.heap.size m _ (Or.inr R7)).mono ?_; rintro e w8 ⟨rfl, R8, T8⟩
    have P8 : Past w w8 := P7.turned T8 (Nat.le_refl _)
    clear T8 R7 P7
    go_wp2
    go_ret
    exact ⟨rfl, P8.grown⟩
  have ey : ((x : Int) == 0) = false := by simp; omega
  have en : ((x : Int) != 0) = true := by simp; omega
  have e0 : erV x = 0 := erV_pos x h0
  have q5 : ((((exN (lgV x : Nat)) : Nat) : Int) == (((x) : Nat) : Int)) = true := by rw [lgV_pos x h0, exN_nat, pw_lg x hx h0]; simp
  clear h0
  go_wp2_with fail
  refine (fexp_any w.heap.size (lgV x : Nat) _ (Or.inr R2)).mono ?_; rintro e w3 ⟨rfl, R3, T3⟩
  have P3 : Past w w3 := P2.turned T3 (Nat.le_refl _)
  clear T3 R2 P2
  go_wp2_with fail
  refine (fexp_any w.heap.size m _ (Or.inr R3)).mono ?_; rintro e w4 ⟨rfl, R4, T4⟩
  have P4 : Past w w4 := P3.turned T4 (Nat.le_refl _)
  clear T4 R3 P3
  go_wp2_with fail
  refine (fexp_any w.heap.size n _ (Or.inr R4)).mono ?_; rintro e w5 ⟨rfl, R5, T5⟩
  have P5 : Past w w5 := P4.turned T5 (Nat.le_refl _)
  clear T5 R4 P4
  go_wp2_with fail
  refine (fmul_any w.heap.size _ _ hem hen _ (Or.inr R5)).mono ?_; rintro e w6 ⟨rfl, R6, T6⟩
  have P6 : Past w w6 := P5.turned T6 (Nat.le_refl _)
  clear T6 R5 P5
  go_wp2_with fail
  refine (fexp_any w.heap.size (m + n) _ (Or.inr R6)).mono ?_; rintro e w7 ⟨rfl, R7, T7⟩
  have P7 : Past w w7 := P6.turned T7 (Nat.le_refl _)
  clear T7 R6 P6
  go_wp2_with fail
  refine (fexp_any w.heap.size (m + 255) _ (Or.inr R7)).mono ?_; rintro e w8 ⟨rfl, R8, T8⟩
  have P8 : Past w w8 := P7.turned T8 (Nat.le_refl _)
  clear T8 R7 P7
  go_wp2_with fail
  refine (fexp_any w.heap.size m _ (Or.inr R8)).mono ?_; rintro e w9 ⟨rfl, R9, T9⟩
  have P9 : Past w w9 := P8.turned T9 (Nat.le_refl _)
  clear T9 R8 P8
  go_wp2
  go_ret
  exact ⟨rfl, P9.grown⟩
theorem walk (a0 : Int) (a1 : Int) (a2 : Int) (w0 : (Lit.int .u8 a0).wf = true) (w1 : (Lit.int .i64 a1).wf = true) (w2 : (Lit.int .i64 a2).wf = true) (w : World) :
    Calls Try.prog 7 #[.int .u8 a0, .int .i64 a1, .int .i64 a2] w fun e w' => e = .returned (.bool true) ∧ Grown w w' := by
  have h0 := bounds_u8 w0
  have h1 := bounds_i64 w1
  have h2 := bounds_i64 w2
  obtain ⟨n0, rfl⟩ : ∃ n : Nat, a0 = n := ⟨a0.toNat, by omega⟩
  have k1 := mask16 a1
  have k2 := mask16 a2
  exact walkN n0 (by omega) a1 a2 (bits .and .i64 a1 65535 - 32768) (bits .and .i64 a2 65535 - 32768) (by omega) (by omega) (by omega) (by omega) (by omega) (by omega) w

set_option maxRecDepth 100000 in
theorem lifted (os : Os) (started : os.Started) (H : Type) (enc : TypeId × Value → H) :
    ReturnsInHanded {} Try.checked os 7 .any (Rows.gfPowersSpec.pre6 enc Try.prog Try.f7 Rows.gfPowersRow.domain false) (Rows.gfPowersSpec.post enc Try.prog Try.f7 false true false false) := by
  refine returnsInHanded_of_change (C := Try.checked) own started (by kernel_rfl) Try.func7
    (ChangeSpec.witness6 (enc := enc) (C := Try.checked) false ⟨#[], #[.int .u8 0, .int .i64 0, .int .i64 0], []⟩ 8 (by kernel_rfl) (by kernel_rfl) (by kernel_rfl) (by kernel_rfl)) ?_
  intro W base args ds gs before hval0 hW hcnd _
  have hval : ∀ (j : Nat) t v, Try.f7.params[j]? = some t → args[j]? = some v → Value.okWide Try.prog W .any base t v := hval0
  have hW' := hW
  obtain ⟨p, q, hA0, hV, rfl, hfz, hnd⟩ := hW
  have hA : DataW.TrodAll enc Try.prog W 0 (fun _ => true) true Try.f7.params.toList args.toList ds p := hA0
  rw [Try.params7] at hA hval
  obtain ⟨v0, vs0, d0, ds0, p0, q0, hargs, rfl, rfl, h0, r0⟩ := trodAll_cons hA
  obtain ⟨v1, vs1, d1, ds1, p1, q1, rfl, rfl, rfl, h1, r1⟩ := trodAll_cons r0
  obtain ⟨v2, vs2, d2, ds2, p2, q2, rfl, rfl, rfl, h2, r2⟩ := trodAll_cons r1
  obtain ⟨rfl, rfl, rfl⟩ := trodAll_nil r2
  obtain rfl : args = #[v0, v1, v2] := by cases args; simp_all
  obtain ⟨rfl, rfl⟩ := trodVars_none hV
  obtain ⟨a0, rfl, rfl, rfl, w0⟩ := open_int Try.underlying5 (hval 0 5 v0 rfl rfl) h0
  obtain ⟨a1, rfl, rfl, rfl, w1⟩ := open_int Try.underlying3 (hval 1 3 v1 rfl rfl) h1
  obtain ⟨a2, rfl, rfl, rfl, w2⟩ := open_int Try.underlying3 (hval 2 3 v2 rfl rfl) h2
  clear hA0 hval0
  simp only [List.append_nil] at hW'
  refine (walk a0 a1 a2 w0 w1 w2 W).mono fun e W' ⟨he, hg⟩ => ?_
  subst he
  exact ⟨_, rfl, post_of_same (pa := []) (pv := []) hW' (fun _ _ _ => (trodAll_cons_mk (shut_bool Try.underlying4 _) trodAll_mk0)) (fun sp _ => (trodAll_cons_mk (shut_int Try.underlying5 w0) (trodAll_cons_mk (shut_int Try.underlying3 w1) (trodAll_cons_mk (shut_int Try.underlying3 w2) trodAll_mk0)))) (fun _ _ => rfl) rfl
    (hg.frame _) hg.2.1 (ok_one (by kernel_rfl) rfl (okWide_bool_mk Try.underlying4 _))⟩

theorem over : Rows.gfPowersRow.holds Try.pinned (OpenSpec.ofChange Rows.gfPowersSpec) :=
  OpenClaim.holds_of_wide 7 Try.f7 rfl rfl rfl rfl rfl rfl rfl ⟨rfl, rfl, rfl, rfl, rfl⟩ rfl rfl rfl rfl rfl (by kernel_rfl) Try.func7 (by kernel_rfl)
    (of_decide_eq_true (by kernel_rfl)) (by unfold Func.isWrapper; first | (rw [if_pos (by decide +kernel)]; kernel_rfl) | (rw [if_neg (by decide +kernel)]; exact ⟨rfl, rfl⟩))
    (fun os started H enc _ => lifted os started H enc)

end Go.Proofs.Ytpibjendlaepgaa.gfPowers
namespace Go.Proofs.Ytpibjendlaepgaa
theorem gfPowers_holds : Rows.GfPowersSaid := gfPowers.over
end Go.Proofs.Ytpibjendlaepgaa
