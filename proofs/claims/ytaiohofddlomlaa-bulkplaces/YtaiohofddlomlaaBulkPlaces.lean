/-
  For every two texts, every byte and every number the law function BulkPlaces returns true (Go: trunnionlaw03.BulkPlaces). No condition.
-/
import Derived.Test.YtaiohofddlomlaaRows
import Derived.Test.YtaiohofddlomlaaBufArgs
import Derived.Test.YtaiohofddlomlaaBufFit
import Derived.WalkKit
import Derived.ProofKit
import Derived.OpenShut
import Derived.ShutString
import Derived.BigQuiet
import Derived.Deep.RegionWith
import Derived.Deep.DeepCutAuto
namespace Go.Proofs.Ytaiohofddlomlaa.bulkPlaces
open Go.ChangeShapes Go.WideShapes Go.ChangeAt Go.RowKit
open Go.ChangeMaps (open_string shut_string)
open Go.Proofs.Ytaiohofddlomlaa Plain Go.BigFrame
set_option linter.unusedVariables false

theorem own : ownKnob Try.prog.godebug = none := by kernel_rfl
theorem laidOut : laidOutB Try.prog = true := by kernel_rfl
theorem cellsS : Try.prog.cellsOf 9 = 1 := by kernel_rfl
theorem cellsT : Try.prog.cellsOf 31 = 2 := by kernel_rfl
set_option maxRecDepth 100000 in
set_option maxHeartbeats 8000000 in
theorem walk (w : World) (a0 b0 : ByteArray) (a1 : Int) (a2 : Int) (w0 : a0.size ≤ maxLen) (x0 : b0.size ≤ maxLen) (w1 : (Lit.int .u8 a1).wf = true) (w2 : (Lit.int .i64 a2).wf = true) :
    Calls Try.prog 6 #[.agg #[.string a0, .string b0], .int .u8 a1, .int .i64 a2] w fun e w' => e = .returned (.bool true) ∧ Kp w w' := by
  have h1 := bounds_u8 w1
  obtain ⟨c, rfl⟩ : ∃ n : Nat, a1 = n := ⟨a1.toNat, by omega⟩
  have hc : c < 256 := by omega
  clear h1
  have hat := bounds_i64 w2
  have K0 : Kp w (w.alloc (.cells #[.string a0, .string b0] 31)) := (Kp.refl w).alloc _
  have HC := cut_any true _ [a0, b0] (small2 w0 x0) _ (StrsIn.lit2 w a0 b0 31)
  go_enter Try.func6, Try.ntmps6
  go_wp2_with fail
  refine HC.mono ?_; rintro e w1 ⟨v, rfl, hS, k1⟩
  have K1 := K0.trans k1
  clear K0 k1 HC
  have hA := cutE_le true [a0, b0] 0
  have hB := cutE_le true [a0, b0] 1
  have hAB : (cutE true [a0, b0] 1).size = (cutE true [a0, b0] 0).size := by rw [cutE_size, cutE_size]
  obtain ⟨A, hAe⟩ : ∃ A, A = cutE true [a0, b0] 0 := ⟨_, rfl⟩
  obtain ⟨B, hBe⟩ : ∃ B, B = cutE true [a0, b0] 1 := ⟨_, rfl⟩
  have hS1 : StrsIn w1 v [A, B] := by rw [hAe, hBe]; exact hS
  rw [← hAe] at hA hAB
  rw [← hBe] at hB hAB
  clear hS hAe hBe
  obtain ⟨b, off, cap, rfl, hcp, hcl, c0, c1⟩ := hS1.two
  clear hS1
  have mA : A.size ≤ maxLen := by unfold maxLen; omega
  have mB : B.size ≤ maxLen := by unfold maxLen; omega
  have nA : A.size ≤ 65536 := by omega
  obtain ⟨k, hk⟩ : ∃ k : Nat, (k : Int) = max 0 a2 % ((A.size : Int) + 1) := ⟨(max 0 a2 % ((A.size : Int) + 1)).toNat, by have := Int.emod_nonneg (max 0 a2) (show ((A.size : Int) + 1) ≠ 0 by omega); omega⟩
  have hkA : k ≤ A.size := by have := Int.emod_lt_of_pos (max 0 a2) (show (0 : Int) < (A.size : Int) + 1 by omega); omega
  have hkB : k ≤ B.size := by omega
  have HK : Hid ((k : Int) = max 0 a2 % ((A.size : Int) + 1)) := hk
  have sA1 : (A.extract 0 k).size = k := by rw [extract_size _ _ _ hkA]; omega
  have sB1 : (B.extract 0 k).size = k := by rw [extract_size _ _ _ hkB]; omega
  have sA2 : (A.extract k A.size).size = A.size - k := extract_size _ _ _ (Nat.le_refl _)
  have sB2 : (B.extract k B.size).size = B.size - k := extract_size _ _ _ (Nat.le_refl _)
  have F0 := fold2 A c hc B nA hAB
  have F1 := fold2 (A.extract 0 k) c hc (B.extract 0 k) (by omega) (by omega)
  have F2 := fold2 (A.extract k A.size) c hc (B.extract k B.size) (by omega) (by omega)
  rw [fold_parts A B c hc hAB k hkA] at F0
  have D0 := double2 A B nA hAB
  have D1 := double2 (A.extract 0 k) (B.extract 0 k) (by omega) (by omega)
  have D2 := double2 (A.extract k A.size) (B.extract k B.size) (by omega) (by omega)
  rw [fold_parts B A 2 (by omega) hAB.symm k hkB] at D0
  have t1 := foldS_size (A.extract 0 k) c (B.extract 0 k)
  have t2 := foldS_size (A.extract k A.size) c (B.extract k B.size)
  have t3 := foldS_size (B.extract 0 k) 2 (A.extract 0 k)
  have t4 := foldS_size (B.extract k B.size) 2 (A.extract k A.size)
  obtain ⟨P1, hP1⟩ : ∃ P, P = foldS (A.extract 0 k) c (B.extract 0 k) := ⟨_, rfl⟩
  obtain ⟨P2, hP2⟩ : ∃ P, P = foldS (A.extract k A.size) c (B.extract k B.size) := ⟨_, rfl⟩
  obtain ⟨P3, hP3⟩ : ∃ P, P = foldS (B.extract 0 k) 2 (A.extract 0 k) := ⟨_, rfl⟩
  obtain ⟨P4, hP4⟩ : ∃ P, P = foldS (B.extract k B.size) 2 (A.extract k A.size) := ⟨_, rfl⟩
  rw [← hP1] at F0 F1 t1
  rw [← hP2] at F0 F2 t2
  rw [← hP3] at D0 D1 t3
  rw [← hP4] at D0 D2 t4
  have u1 : P1.size ≤ 200 := by omega
  have u2 : P2.size ≤ 200 := by omega
  have u3 : P3.size ≤ 200 := by omega
  have u4 : P4.size ≤ 200 := by omega
  clear t1 t2 t3 t4 hP1 hP2 hP3 hP4 sA1 sA2 sB1 sB2 hAB hk
  go_upto_region 2 with fail
  go_cut [8] (fun s wx => s = .int .i64 (k : Nat) ∧ wx = w1)
  case first =>
    clear F0 F1 F2 D0 D1 D2
    go_wp2_with fail
    · have hm : max 0 a2 = a2 := by omega
      go_meet
      exact ⟨by rw [HK.out, hm], rfl⟩
    · have hm : max 0 a2 = 0 := by omega
      go_meet
      exact ⟨by rw [HK.out, hm, Int.zero_emod], rfl⟩
  obtain ⟨rfl, rfl⟩ := hcut
  have q0 := kpw_cell c0
  have q1 := kpw_cell c1
  go_wp2_with fail
  refine wp_region_kp (by kernel_rfl) (by kernel_rfl) ?_
  repeat (first
    | go_big_quiet_skip
    | (go_big_quiet_want; go_big_quiet_op; go_big_quiet_on)
    | (go_big_quiet_want; go_big_quiet_op; apply Exists.intro; refine ⟨fun p => ?_, ?_⟩; (focus (go_at_call 14; exact kp_call (F0 _))); go_big_quiet_on))
  refine wpQuiet_nil ?_
  rintro w2 ⟨p, hp⟩
  have k : Kp wc w2 := by rw [hp]; exact kpw_kp _ _
  clear hp q0 q1
  have K2 := K1.trans k
  have c0' := k.held c0
  have c1' := k.held c1
  clear c0 c1 K1 k
  have c0 := c0'
  have c1 := c1'
  clear c0' c1'
  have q0 := kpw_cell c0
  have q1 := kpw_cell c1
  go_wp2_with fail
  refine wp_region_kp (by kernel_rfl) (by kernel_rfl) ?_
  repeat (first
    | go_big_quiet_skip
    | (go_big_quiet_want; go_big_quiet_op; go_big_quiet_on)
    | (go_big_quiet_want; go_big_quiet_op; apply Exists.intro; refine ⟨fun p => ?_, ?_⟩; (focus (go_at_call 14; exact kp_call (F1 _))); go_big_quiet_on))
  refine wpQuiet_nil ?_
  rintro w3 ⟨p, hp⟩
  have k : Kp w2 w3 := by rw [hp]; exact kpw_kp _ _
  clear hp q0 q1
  have K3 := K2.trans k
  have c0' := k.held c0
  have c1' := k.held c1
  clear c0 c1 K2 k
  have c0 := c0'
  have c1 := c1'
  clear c0' c1'
  have q0 := kpw_cell c0
  have q1 := kpw_cell c1
  go_wp2_with fail
  refine wp_region_kp (by kernel_rfl) (by kernel_rfl) ?_
  repeat (first
    | go_big_quiet_skip
    | (go_big_quiet_want; go_big_quiet_op; go_big_quiet_on)
    | (go_big_quiet_want; go_big_quiet_op; apply Exists.intro; refine ⟨fun p => ?_, ?_⟩; (focus (go_at_call 14; exact kp_call (F2 _))); go_big_quiet_on))
  refine wpQuiet_nil ?_
  rintro w4 ⟨p, hp⟩
  have k : Kp w3 w4 := by rw [hp]; exact kpw_kp _ _
  clear hp q0 q1
  have K4 := K3.trans k
  have c0' := k.held c0
  have c1' := k.held c1
  clear c0 c1 K3 k
  have c0 := c0'
  have c1 := c1'
  clear c0' c1'
  have q0 := kpw_cell c0
  have q1 := kpw_cell c1
  go_wp2_with fail
  refine wp_region_kp (by kernel_rfl) (by kernel_rfl) ?_
  repeat (first
    | go_big_quiet_skip
    | (go_big_quiet_want; go_big_quiet_op; go_big_quiet_on)
    | (go_big_quiet_want; go_big_quiet_op; apply Exists.intro; refine ⟨fun p => ?_, ?_⟩; (focus (go_at_call 16; exact kp_call (D0 _))); go_big_quiet_on))
  refine wpQuiet_nil ?_
  rintro w5 ⟨p, hp⟩
  have k : Kp w4 w5 := by rw [hp]; exact kpw_kp _ _
  clear hp q0 q1
  have K5 := K4.trans k
  have c0' := k.held c0
  have c1' := k.held c1
  clear c0 c1 K4 k
  have c0 := c0'
  have c1 := c1'
  clear c0' c1'
  have q0 := kpw_cell c0
  have q1 := kpw_cell c1
  go_wp2_with fail
  refine wp_region_kp (by kernel_rfl) (by kernel_rfl) ?_
  repeat (first
    | go_big_quiet_skip
    | (go_big_quiet_want; go_big_quiet_op; go_big_quiet_on)
    | (go_big_quiet_want; go_big_quiet_op; apply Exists.intro; refine ⟨fun p => ?_, ?_⟩; (focus (go_at_call 16; exact kp_call (D1 _))); go_big_quiet_on))
  refine wpQuiet_nil ?_
  rintro w6 ⟨p, hp⟩
  have k : Kp w5 w6 := by rw [hp]; exact kpw_kp _ _
  clear hp q0 q1
  have K6 := K5.trans k
  have c0' := k.held c0
  have c1' := k.held c1
  clear c0 c1 K5 k
  have c0 := c0'
  have c1 := c1'
  clear c0' c1'
  have q0 := kpw_cell c0
  have q1 := kpw_cell c1
  go_wp2_with fail
  refine wp_region_kp (by kernel_rfl) (by kernel_rfl) ?_
  repeat (first
    | go_big_quiet_skip
    | (go_big_quiet_want; go_big_quiet_op; go_big_quiet_on)
    | (go_big_quiet_want; go_big_quiet_op; apply Exists.intro; refine ⟨fun p => ?_, ?_⟩; (focus (go_at_call 16; exact kp_call (D2 _))); go_big_quiet_on))
  refine wpQuiet_nil ?_
  rintro w7 ⟨p, hp⟩
  have k : Kp w6 w7 := by rw [hp]; exact kpw_kp _ _
  clear hp q0 q1
  have K7 := K6.trans k
  have c0' := k.held c0
  have c1' := k.held c1
  clear c0 c1 K6 k
  have c0 := c0'
  have c1 := c1'
  clear c0' c1'
  clear F0 F1 F2 D0 D1 D2
  go_wp2_with fail
  refine (wakes_any w7).mono ?_; rintro e wz ⟨rfl, kz⟩
  have KZ := K7.trans kz
  clear kz
  go_wp2
  go_ret
  exact ⟨rfl, KZ⟩

set_option maxRecDepth 100000 in
theorem lifted (os : Os) (started : os.Started) (H : Type) (enc : TypeId × Value → H) :
    ReturnsInHanded {} Try.checked os 6 .any (Rows.bulkPlacesSpec.pre6 enc Try.prog Try.f6 Rows.bulkPlacesRow.domain false) (Rows.bulkPlacesSpec.post enc Try.prog Try.f6 false true false false) := by
  refine returnsInHanded_of_change (C := Try.checked) own started (by kernel_rfl) Try.func6
    (ChangeSpec.witness6 (enc := enc) (C := Try.checked) false ⟨#[], #[.agg #[.string ByteArray.empty, .string ByteArray.empty], .int .u8 0, .int .i64 0], []⟩ 8 (by kernel_rfl) (by kernel_rfl) (by kernel_rfl) (by kernel_rfl)) ?_
  intro W base args ds gs before hval0 hW hcnd _
  have hval : ∀ (j : Nat) t v, Try.f6.params[j]? = some t → args[j]? = some v → Value.okWide Try.prog W .any base t v := hval0
  have hW' := hW
  have hlt := hW.lt
  obtain ⟨p, q, hA0, hV, rfl, hfz, hnd⟩ := hW
  have hA : DataW.TrodAll enc Try.prog W 0 (fun _ => true) true Try.f6.params.toList args.toList ds p := hA0
  have hAk := hA
  rw [Try.params6] at hA hval
  obtain ⟨v0, vs0, d0, ds0, p0, q0, hargs, rfl, rfl, h0, r0⟩ := trodAll_cons hA
  obtain ⟨v1, vs1, d1, ds1, p1, q1, rfl, rfl, rfl, h1, r1⟩ := trodAll_cons r0
  obtain ⟨v2, vs2, d2, ds2, p2, q2, rfl, rfl, rfl, h2, r2⟩ := trodAll_cons r1
  obtain ⟨rfl, rfl, rfl⟩ := trodAll_nil r2
  obtain rfl : args = #[v0, v1, v2] := by cases args; simp_all
  obtain ⟨rfl, rfl⟩ := trodVars_none hV
  obtain ⟨a0, b0, rfl, w0, x0⟩ := open_two Try.underlying31 Try.underlying9 cellsS cellsT (hval 0 31 v0 rfl rfl) h0
  obtain ⟨a1, rfl, rfl, rfl, w1⟩ := open_int Try.underlying5 (hval 1 5 v1 rfl rfl) h1
  obtain ⟨a2, rfl, rfl, rfl, w2⟩ := open_int Try.underlying3 (hval 2 3 v2 rfl rfl) h2
  clear hA0 hval0
  simp only [List.append_nil] at hW' hAk hlt
  refine (walk W a0 b0 a1 a2 w0 x0 w1 w2).mono fun e W' ⟨he, hg⟩ => ?_
  subst he
  exact ⟨_, rfl, post_kp (pv := []) hW' (fun _ _ _ => (trodAll_cons_mk (shut_bool Try.underlying4 _) trodAll_mk0)) (fun sp hsp => trodAll_stays laidOut (by rw [Try.params6]; exact of_decide_eq_true (by kernel_rfl)) hAk (fun x hx => Below.same hg (hlt x hx)) hsp) (fun _ _ => rfl) (by simp) hg⟩

theorem over : Rows.bulkPlacesRow.holds Try.pinned (OpenSpec.ofChange Rows.bulkPlacesSpec) :=
  OpenClaim.holds_of_wide 6 Try.f6 rfl rfl rfl rfl rfl rfl rfl ⟨rfl, rfl, rfl, rfl, rfl⟩ rfl rfl rfl rfl rfl (by kernel_rfl) Try.func6 (by kernel_rfl)
    (of_decide_eq_true (by kernel_rfl)) (by unfold Func.isWrapper; first | (rw [if_pos (by decide +kernel)]; kernel_rfl) | (rw [if_neg (by decide +kernel)]; exact ⟨rfl, rfl⟩))
    (fun os started H enc _ => lifted os started H enc)

end Go.Proofs.Ytaiohofddlomlaa.bulkPlaces
namespace Go.Proofs.Ytaiohofddlomlaa
theorem bulkPlaces_holds : Rows.BulkPlacesSaid := bulkPlaces.over
end Go.Proofs.Ytaiohofddlomlaa
