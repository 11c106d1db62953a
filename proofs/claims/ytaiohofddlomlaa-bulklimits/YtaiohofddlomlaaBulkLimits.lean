/-
  For every number and every byte the law function BulkLimits returns true (Go: trunnionlaw03.BulkLimits). No condition.
-/
import Derived.Test.YtaiohofddlomlaaRows
import Derived.Test.YtaiohofddlomlaaBufArgs
import Derived.Test.YtaiohofddlomlaaBufFit
import Derived.WalkKit
import Derived.ProofKit
import Derived.OpenShut
import Derived.ShutString
import Derived.BigQuiet
import Derived.Deep.RegionWith
import Derived.Deep.DeepCutAuto
namespace Go.Proofs.Ytaiohofddlomlaa.bulkLimits
open Go.ChangeShapes Go.WideShapes Go.ChangeAt Go.RowKit
open Go.ChangeMaps (open_string shut_string)
open Go.Proofs.Ytaiohofddlomlaa Plain Go.BigFrame
set_option linter.unusedVariables false

theorem own : ownKnob Try.prog.godebug = none := by kernel_rfl
theorem laidOut : laidOutB Try.prog = true := by kernel_rfl
set_option maxRecDepth 100000 in
set_option maxHeartbeats 8000000 in
theorem walk_zero (w : World) (a0 : Int) (w0 : (Lit.int .i64 a0).wf = true) :
    Calls Try.prog 7 #[.int .i64 a0, .int .u8 0] w fun e w' => e = .returned (.bool true) ∧ Kp w w' := by
  obtain ⟨i0, hi, hz0, hz1, hz2⟩ := info_parts info_u8
  have hnb := bounds_i64 w0
  have hzs := zs_size 65536
  obtain ⟨Z, hZ⟩ : ∃ Z, Z = zs 65536 := ⟨_, rfl⟩
  rw [← hZ] at hzs
  have mZ : Z.size ≤ maxLen := by unfold maxLen; omega
  have H1 := scale_any 3 (by omega) Z mZ
  have H2 := fun W => add_any _ [Z, ⟨#[120]⟩] (small2 mZ (tiny _ (by decide))) _ (StrsIn.lit2 W Z ⟨#[120]⟩ 9)
  have H3 := double_any ⟨#[120]⟩ Z (tiny _ (by decide)) mZ
  have H4 := fold_any Z mZ 1 (by omega) ⟨#[]⟩ (tiny _ (by decide))
  have f1 : fitE [Z] = 0 := fit_one (by omega)
  have small : ∀ x : ByteArray, x.size ≤ 65536 → ∀ i, i < [Z, x].length → ([Z, x].getD i noS).size ≤ 65536 := fun x hx i hi => by
    have h : i = 0 ∨ i = 1 := by simp at hi; omega
    rcases h with rfl | rfl
    · show Z.size ≤ 65536; omega
    · exact hx
  have f2 : fitE [Z, ⟨#[120]⟩] = 4 := fit_unlike (small _ (by show (1 : Nat) ≤ 65536; omega)) 1 (by simp) (by show (1 : Nat) ≠ Z.size; omega)
  have f3 : fitE [⟨#[120]⟩, Z] = 4 := fit_unlike (fun i hi => by
    have h : i = 0 ∨ i = 1 := by simp at hi; omega
    rcases h with rfl | rfl
    · show (1 : Nat) ≤ 65536; omega
    · show Z.size ≤ 65536; omega) 1 (by simp) (by show Z.size ≠ (1 : Nat); omega)
  have f4 : fitE [Z, ⟨#[]⟩] = 4 := fit_unlike (small _ (by show (0 : Nat) ≤ 65536; omega)) 1 (by simp) (by show (0 : Nat) ≠ Z.size; omega)
  rw [res_ok f1, f1] at H1
  simp only [f2] at H2
  rw [f3] at H3
  rw [f4] at H4
  have hSc := scaleS_size 3 Z
  obtain ⟨S, hS⟩ : ∃ S, S = scaleS 3 Z := ⟨_, rfl⟩
  rw [← hS] at H1 hSc
  have hS1 : S.size ≤ 65536 := by omega
  have hS2 : 65536 ≤ S.size := by omega
  clear f1 f2 f3 f4 small hS hSc
  have HZ : Hid (Z = zs 65536) := hZ
  clear hZ
  obtain ⟨m, hm⟩ : ∃ m, m = noughtN a0 := ⟨_, rfl⟩
  have hm2 : (m : Int) = min (max a0 0) 65536 := by rw [hm]; unfold noughtN; omega
  have H5 := noughts_any a0 (by omega) (by omega)
  rw [← hm] at H5
  have hY := zs_size m
  obtain ⟨Y, hYe⟩ : ∃ Y, Y = zs m := ⟨_, rfl⟩
  rw [← hYe] at H5 hY
  have m1 : a0 ≤ 0 → (m : Int) ≤ 0 := fun h => by omega
  have m2 : 0 < a0 → a0 ≤ 65536 → (m : Int) ≤ a0 ∧ a0 ≤ m := fun h h' => by omega
  have m3 : 65536 < a0 → (m : Int) ≤ 65536 ∧ 65536 ≤ (m : Int) := fun h => by omega
  have HM : Hid ((a0 ≤ 0 → (m : Int) ≤ 0) ∧ (0 < a0 → a0 ≤ 65536 → (m : Int) ≤ a0 ∧ a0 ≤ m) ∧ (65536 < a0 → (m : Int) ≤ 65536 ∧ 65536 ≤ (m : Int))) := ⟨m1, m2, m3⟩
  have HY : Hid (Y.size = m) := hY
  clear hm hm2 m1 m2 m3 hYe hY
  go_enter Try.func7, Try.ntmps7
  go_wp2_with (at_make; refine wpList_make_full _ rfl _ _ 41 rfl w.heap.size 5 i0 (.int .u8 0) 1 Try.underlying41 hi hz0 hz1 .i64 .i64 _ _ 65536 rfl rfl (by omega) (by omega) (by rw [hz2]; omega) (by unfold maxLen; omega) (Nat.le_refl _) ?_; intro w1 hown0 hgrow0; have hcv := made_text (P := Try.prog) 41 9 Try.underlying41 Try.underlying5 Try.underlying9 hown0; rw [← HZ.out] at hcv)
  have K1 : Kp w w1 := (Kp.refl w).grown hgrow0 (fun k hk => by cases hk)
  clear hcv hown0 hgrow0 HZ
  refine (H1 w1).mono ?_; rintro e w2 ⟨rfl, k2⟩
  have K2 := K1.trans k2
  clear H1 K1 k2
  go_wp2_with fail
  refine (H2 w2).mono ?_; rintro e w3 ⟨rfl, k3⟩
  have K3 := (K2.alloc _).trans k3
  clear H2 K2 k3
  go_wp2_with fail
  refine (H3 w3).mono ?_; rintro e w4 ⟨rfl, k4⟩
  have K4 := K3.trans k4
  clear H3 K3 k4
  go_wp2_with fail
  refine (H4 w4).mono ?_; rintro e w5 ⟨rfl, k5⟩
  have K5 := K4.trans k5
  clear H4 K4 k5
  go_wp2_with fail
  refine (wakes_any w5).mono ?_; rintro e w6 ⟨rfl, k6⟩
  have K6 := K5.trans k6
  clear K5 k6
  go_wp2_with fail
  refine (H5 w6).mono ?_; rintro e w7 ⟨rfl, k7⟩
  have K7 := K6.trans k7
  clear H5 K6 k7
  have hY : Y.size = m := HY.out
  rcases (show a0 ≤ 0 ∨ (0 < a0 ∧ a0 ≤ 65536) ∨ 65536 < a0 from by omega) with h | ⟨h, h'⟩ | h
  · have hq : ((m : Int) == 0) = true := by have := HM.out.1 h; rw [beq_iff_eq]; omega
    clear HM HY
    go_wp2
    go_ret
    exact ⟨rfl, K7⟩
  · have hq : ((m : Int) == a0) = true := by have := HM.out.2.1 h h'; rw [beq_iff_eq]; omega
    clear HM HY
    go_wp2
    go_ret
    exact ⟨rfl, K7⟩
  · have hq : ((m : Int) == 65536) = true := by have := HM.out.2.2 h; rw [beq_iff_eq]; omega
    clear HM HY
    go_wp2
    go_ret
    exact ⟨rfl, K7⟩
set_option maxRecDepth 100000 in
set_option maxHeartbeats 8000000 in
theorem walk_more (w : World) (a0 : Int) (w0 : (Lit.int .i64 a0).wf = true) (mo : Nat) (hmo : 0 < mo) (hm8 : mo < 256) :
    Calls Try.prog 7 #[.int .i64 a0, .int .u8 mo] w fun e w' => e = .returned (.bool true) ∧ Kp w w' := by
  obtain ⟨i0, hi, hz0, hz1, hz2⟩ := info_parts info_u8
  have hnb := bounds_i64 w0
  have hzs := zs_size (65536 + mo)
  obtain ⟨Z, hZ⟩ : ∃ Z, Z = zs (65536 + mo) := ⟨_, rfl⟩
  rw [← hZ] at hzs
  have mZ : Z.size ≤ maxLen := by unfold maxLen; omega
  have H1 := scale_any 3 (by omega) Z mZ
  have H2 := fun W => add_any _ [Z, ⟨#[120]⟩] (small2 mZ (tiny _ (by decide))) _ (StrsIn.lit2 W Z ⟨#[120]⟩ 9)
  have H3 := double_any ⟨#[120]⟩ Z (tiny _ (by decide)) mZ
  have H4 := fold_any Z mZ 1 (by omega) ⟨#[]⟩ (tiny _ (by decide))
  have f1 : fitE [Z] = 2 := fit_big 0 (by simp) (by show 65536 < Z.size; omega)
  have f2 : fitE [Z, ⟨#[120]⟩] = 2 := fit_big 0 (by simp) (by show 65536 < Z.size; omega)
  have f3 : fitE [⟨#[120]⟩, Z] = 2 := fit_big 1 (by simp) (by show 65536 < Z.size; omega)
  have f4 : fitE [Z, ⟨#[]⟩] = 2 := fit_big 0 (by simp) (by show 65536 < Z.size; omega)
  rw [show resOf [Z] (scaleS 3 Z) = ⟨#[]⟩ by unfold resOf; rw [if_neg (by rw [f1]; omega)]; rfl, f1] at H1
  simp only [f2] at H2
  rw [f3] at H3
  rw [f4] at H4
  clear f1 f2 f3 f4
  have HZ : Hid (Z = zs (65536 + mo)) := hZ
  clear hZ
  obtain ⟨m, hm⟩ : ∃ m, m = noughtN a0 := ⟨_, rfl⟩
  have hm2 : (m : Int) = min (max a0 0) 65536 := by rw [hm]; unfold noughtN; omega
  have H5 := noughts_any a0 (by omega) (by omega)
  rw [← hm] at H5
  have hY := zs_size m
  obtain ⟨Y, hYe⟩ : ∃ Y, Y = zs m := ⟨_, rfl⟩
  rw [← hYe] at H5 hY
  have m1 : a0 ≤ 0 → (m : Int) ≤ 0 := fun h => by omega
  have m2 : 0 < a0 → a0 ≤ 65536 → (m : Int) ≤ a0 ∧ a0 ≤ m := fun h h' => by omega
  have m3 : 65536 < a0 → (m : Int) ≤ 65536 ∧ 65536 ≤ (m : Int) := fun h => by omega
  have HM : Hid ((a0 ≤ 0 → (m : Int) ≤ 0) ∧ (0 < a0 → a0 ≤ 65536 → (m : Int) ≤ a0 ∧ a0 ≤ m) ∧ (65536 < a0 → (m : Int) ≤ 65536 ∧ 65536 ≤ (m : Int))) := ⟨m1, m2, m3⟩
  have HY : Hid (Y.size = m) := hY
  clear hm hm2 m1 m2 m3 hYe hY
  go_enter Try.func7, Try.ntmps7
  go_wp2_with (at_make; refine wpList_make_full _ rfl _ _ 41 rfl w.heap.size 5 i0 (.int .u8 0) 1 Try.underlying41 hi hz0 hz1 .i64 .i64 _ _ (65536 + mo) rfl rfl (by omega) (by omega) (by rw [hz2]; omega) (by unfold maxLen; omega) (Nat.le_refl _) ?_; intro w1 hown0 hgrow0; have hcv := made_text (P := Try.prog) 41 9 Try.underlying41 Try.underlying5 Try.underlying9 hown0; rw [← HZ.out] at hcv)
  have K1 : Kp w w1 := (Kp.refl w).grown hgrow0 (fun k hk => by cases hk)
  clear hcv hown0 hgrow0 HZ
  refine (H1 w1).mono ?_; rintro e w2 ⟨rfl, k2⟩
  have K2 := K1.trans k2
  clear H1 K1 k2
  go_wp2_with fail
  refine (H2 w2).mono ?_; rintro e w3 ⟨rfl, k3⟩
  have K3 := (K2.alloc _).trans k3
  clear H2 K2 k3
  go_wp2_with fail
  refine (H3 w3).mono ?_; rintro e w4 ⟨rfl, k4⟩
  have K4 := K3.trans k4
  clear H3 K3 k4
  go_wp2_with fail
  refine (H4 w4).mono ?_; rintro e w5 ⟨rfl, k5⟩
  have K5 := K4.trans k5
  clear H4 K4 k5
  go_wp2_with fail
  refine (wakes_any w5).mono ?_; rintro e w6 ⟨rfl, k6⟩
  have K6 := K5.trans k6
  clear K5 k6
  go_wp2_with fail
  refine (H5 w6).mono ?_; rintro e w7 ⟨rfl, k7⟩
  have K7 := K6.trans k7
  clear H5 K6 k7
  have hY : Y.size = m := HY.out
  rcases (show a0 ≤ 0 ∨ (0 < a0 ∧ a0 ≤ 65536) ∨ 65536 < a0 from by omega) with h | ⟨h, h'⟩ | h
  · have hq : ((m : Int) == 0) = true := by have := HM.out.1 h; rw [beq_iff_eq]; omega
    clear HM HY
    go_wp2
    go_ret
    exact ⟨rfl, K7⟩
  · have hq : ((m : Int) == a0) = true := by have := HM.out.2.1 h h'; rw [beq_iff_eq]; omega
    clear HM HY
    go_wp2
    go_ret
    exact ⟨rfl, K7⟩
  · have hq : ((m : Int) == 65536) = true := by have := HM.out.2.2 h; rw [beq_iff_eq]; omega
    clear HM HY
    go_wp2
    go_ret
    exact ⟨rfl, K7⟩
theorem walk (w : World) (a0 : Int) (a1 : Int) (w0 : (Lit.int .i64 a0).wf = true) (w1 : (Lit.int .u8 a1).wf = true) :
    Calls Try.prog 7 #[.int .i64 a0, .int .u8 a1] w fun e w' => e = .returned (.bool true) ∧ Kp w w' := by
  have h1 := bounds_u8 w1
  obtain ⟨mo, rfl⟩ : ∃ n : Nat, a1 = n := ⟨a1.toNat, by omega⟩
  have hm8 : mo < 256 := by omega
  clear h1
  by_cases h : mo = 0
  · subst h; exact walk_zero w a0 w0
  · exact walk_more w a0 w0 mo (by omega) hm8

set_option maxRecDepth 100000 in
theorem lifted (os : Os) (started : os.Started) (H : Type) (enc : TypeId × Value → H) :
    ReturnsInHanded {} Try.checked os 7 .any (Rows.bulkLimitsSpec.pre6 enc Try.prog Try.f7 Rows.bulkLimitsRow.domain false) (Rows.bulkLimitsSpec.post enc Try.prog Try.f7 false true false false) := by
  refine returnsInHanded_of_change (C := Try.checked) own started (by kernel_rfl) Try.func7
    (ChangeSpec.witness6 (enc := enc) (C := Try.checked) false ⟨#[], #[.int .i64 0, .int .u8 0], []⟩ 8 (by kernel_rfl) (by kernel_rfl) (by kernel_rfl) (by kernel_rfl)) ?_
  intro W base args ds gs before hval0 hW hcnd _
  have hval : ∀ (j : Nat) t v, Try.f7.params[j]? = some t → args[j]? = some v → Value.okWide Try.prog W .any base t v := hval0
  have hW' := hW
  have hlt := hW.lt
  obtain ⟨p, q, hA0, hV, rfl, hfz, hnd⟩ := hW
  have hA : DataW.TrodAll enc Try.prog W 0 (fun _ => true) true Try.f7.params.toList args.toList ds p := hA0
  have hAk := hA
  rw [Try.params7] at hA hval
  obtain ⟨v0, vs0, d0, ds0, p0, q0, hargs, rfl, rfl, h0, r0⟩ := trodAll_cons hA
  obtain ⟨v1, vs1, d1, ds1, p1, q1, rfl, rfl, rfl, h1, r1⟩ := trodAll_cons r0
  obtain ⟨rfl, rfl, rfl⟩ := trodAll_nil r1
  obtain rfl : args = #[v0, v1] := by cases args; simp_all
  obtain ⟨rfl, rfl⟩ := trodVars_none hV
  obtain ⟨a0, rfl, rfl, rfl, w0⟩ := open_int Try.underlying3 (hval 0 3 v0 rfl rfl) h0
  obtain ⟨a1, rfl, rfl, rfl, w1⟩ := open_int Try.underlying5 (hval 1 5 v1 rfl rfl) h1
  clear hA0 hval0
  simp only [List.append_nil] at hW' hAk hlt
  refine (walk W a0 a1 w0 w1).mono fun e W' ⟨he, hg⟩ => ?_
  subst he
  exact ⟨_, rfl, post_kp (pv := []) hW' (fun _ _ _ => (trodAll_cons_mk (shut_bool Try.underlying4 _) trodAll_mk0)) (fun sp hsp => trodAll_stays laidOut (by rw [Try.params7]; exact of_decide_eq_true (by kernel_rfl)) hAk (fun x hx => Below.same hg (hlt x hx)) hsp) (fun _ _ => rfl) (by simp) hg⟩

theorem over : Rows.bulkLimitsRow.holds Try.pinned (OpenSpec.ofChange Rows.bulkLimitsSpec) :=
  OpenClaim.holds_of_wide 7 Try.f7 rfl rfl rfl rfl rfl rfl rfl ⟨rfl, rfl, rfl, rfl, rfl⟩ rfl rfl rfl rfl rfl (by kernel_rfl) Try.func7 (by kernel_rfl)
    (of_decide_eq_true (by kernel_rfl)) (by unfold Func.isWrapper; first | (rw [if_pos (by decide +kernel)]; kernel_rfl) | (rw [if_neg (by decide +kernel)]; exact ⟨rfl, rfl⟩))
    (fun os started H enc _ => lifted os started H enc)

end Go.Proofs.Ytaiohofddlomlaa.bulkLimits
namespace Go.Proofs.Ytaiohofddlomlaa
theorem bulkLimits_holds : Rows.BulkLimitsSaid := bulkLimits.over
end Go.Proofs.Ytaiohofddlomlaa
