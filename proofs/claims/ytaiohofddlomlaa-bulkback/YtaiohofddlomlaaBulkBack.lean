/-
  For every two texts and every two bytes the law function BulkBack returns true (Go: trunnionlaw03.BulkBack). No condition.
-/
import Derived.Test.YtaiohofddlomlaaRows
import Derived.Test.YtaiohofddlomlaaBufArgs
import Derived.Test.YtaiohofddlomlaaBufFit
import Derived.WalkKit
import Derived.ProofKit
import Derived.OpenShut
import Derived.ShutString
import Derived.BigQuiet
import Derived.Deep.RegionWith
import Derived.Deep.DeepCutAuto
namespace Go.Proofs.Ytaiohofddlomlaa.bulkBack
open Go.ChangeShapes Go.WideShapes Go.ChangeAt Go.RowKit
open Go.ChangeMaps (open_string shut_string)
open Go.Proofs.Ytaiohofddlomlaa Plain Go.BigFrame
set_option linter.unusedVariables false

theorem own : ownKnob Try.prog.godebug = none := by kernel_rfl
theorem laidOut : laidOutB Try.prog = true := by kernel_rfl
theorem cellsS : Try.prog.cellsOf 9 = 1 := by kernel_rfl
theorem cellsT : Try.prog.cellsOf 31 = 2 := by kernel_rfl
set_option maxRecDepth 100000 in
set_option maxHeartbeats 8000000 in
theorem walk (w : World) (a0 b0 : ByteArray) (a1 : Int) (a2 : Int) (w0 : a0.size ≤ maxLen) (x0 : b0.size ≤ maxLen) (w1 : (Lit.int .u8 a1).wf = true) (w2 : (Lit.int .u8 a2).wf = true) :
    Calls Try.prog 5 #[.agg #[.string a0, .string b0], .int .u8 a1, .int .u8 a2] w fun e w' => e = .returned (.bool true) ∧ Kp w w' := by
  have h1 := bounds_u8 w1
  obtain ⟨c, rfl⟩ : ∃ n : Nat, a1 = n := ⟨a1.toNat, by omega⟩
  have hc : c < 256 := by omega
  clear h1
  have h2 := bounds_u8 w2
  obtain ⟨d, rfl⟩ : ∃ n : Nat, a2 = n := ⟨a2.toNat, by omega⟩
  have hd : d < 256 := by omega
  clear h2
  have K0 : Kp w (w.alloc (.cells #[.string a0, .string b0] 31)) := (Kp.refl w).alloc _
  have HC := cut_any true _ [a0, b0] (small2 w0 x0) _ (StrsIn.lit2 w a0 b0 31)
  go_enter Try.func5, Try.ntmps5
  go_wp2_with fail
  refine HC.mono ?_; rintro e w1 ⟨v, rfl, hS, k1⟩
  have K1 := K0.trans k1
  clear K0 k1 HC
  have hA := cutE_le true [a0, b0] 0
  have hB := cutE_le true [a0, b0] 1
  have hAB : (cutE true [a0, b0] 1).size = (cutE true [a0, b0] 0).size := by rw [cutE_size, cutE_size]
  obtain ⟨A, hAe⟩ : ∃ A, A = cutE true [a0, b0] 0 := ⟨_, rfl⟩
  obtain ⟨B, hBe⟩ : ∃ B, B = cutE true [a0, b0] 1 := ⟨_, rfl⟩
  have hS1 : StrsIn w1 v [A, B] := by rw [hAe, hBe]; exact hS
  rw [← hAe] at hA hAB
  rw [← hBe] at hB hAB
  clear hS hAe hBe
  obtain ⟨b, off, cap, rfl, hcp, hcl, c0, c1⟩ := hS1.two
  clear hS1
  have mA : A.size ≤ maxLen := by unfold maxLen; omega
  have mB : B.size ≤ maxLen := by unfold maxLen; omega
  have nA : A.size ≤ 65536 := by omega
  have nB : B.size ≤ 65536 := by omega
  have nBA : A.size = B.size := hAB.symm
  have zS : (foldS A 1 B).size = B.size := foldS_size A 1 B
  have nS : (foldS A 1 B).size ≤ 65536 := by omega
  have HT : Hid (foldS (foldS A 1 B) 1 B = A) := fold_back A B 1 (by omega) hAB
  have HU : Hid (foldS B 1 A = foldS A 1 B) := (fold_comm A B hAB).symm
  have HS := StrsIn.kept (StrsIn.lit2 w1 A B 9) (Kp.refl (w1.alloc (.cells #[.string A, .string B] 9))).drew
  have KS : Kp w1 ((w1.alloc (.cells #[.string A, .string B] 9)).drew) := ((Kp.refl w1).alloc _).drew
  go_wp2_with fail
  go_cut [8, 9] (fun s t wx => s = .string (foldS A 1 B) ∧ t = .int .i64 0 ∧ Kp w1 wx)
  case first =>
    go_region_with (go_at_call 9; refine (add2 A B nA hAB _ _ HS).mono ?_; rintro e wn ⟨rfl, k0⟩)
    all_goals (go_wp2_with fail; go_meet; exact ⟨rfl, rfl, KS.trans (by assumption)⟩)
  obtain ⟨rfl, rfl, k⟩ := hcut
  clear HS KS
  obtain ⟨w2, hwc⟩ : ∃ w', w' = wc := ⟨_, rfl⟩
  rw [← hwc] at k ⊢
  clear hwc
  have K2 := K1.trans k
  have c0' := k.held c0
  have c1' := k.held c1
  clear c0 c1 K1 k
  have c0 := c0'
  have c1 := c1'
  clear c0' c1'
  obtain ⟨S, hS⟩ : ∃ S, S = foldS A 1 B := ⟨_, rfl⟩
  rw [← hS] at zS nS HT HU ⊢
  clear hS
  have HS := StrsIn.lit2 w2 S B 9
  have KS : Kp w2 (w2.alloc (.cells #[.string S, .string B] 9)) := (Kp.refl w2).alloc _
  go_wp2_with fail
  refine (add2 S B nS zS.symm _ _ HS).mono ?_; rintro e w3 ⟨rfl, k0⟩
  have k := KS.trans k0
  clear HS KS k0
  have K3 := K2.trans k
  have c0' := k.held c0
  have c1' := k.held c1
  clear c0 c1 K2 k
  have c0 := c0'
  have c1 := c1'
  clear c0' c1'
  rw [HT.out]
  clear HT
  have HS := StrsIn.kept (StrsIn.lit2 w3 B A 9) (Kp.refl (w3.alloc (.cells #[.string B, .string A] 9))).drew
  have KS : Kp w3 ((w3.alloc (.cells #[.string B, .string A] 9)).drew) := ((Kp.refl w3).alloc _).drew
  go_wp2_with fail
  go_cut [12, 13] (fun s t wx => s = .string (foldS B 1 A) ∧ t = .int .i64 0 ∧ Kp w3 wx)
  case first =>
    go_region_with (go_at_call 9; refine (add2 B A nB nBA _ _ HS).mono ?_; rintro e wn ⟨rfl, k0⟩)
    all_goals (go_wp2_with fail; go_meet; exact ⟨rfl, rfl, KS.trans (by assumption)⟩)
  obtain ⟨rfl, rfl, k⟩ := hcut
  clear HS KS
  obtain ⟨w4, hwc⟩ : ∃ w', w' = wc := ⟨_, rfl⟩
  rw [← hwc] at k ⊢
  clear hwc
  have K4 := K3.trans k
  have c0' := k.held c0
  have c1' := k.held c1
  clear c0 c1 K3 k
  have c0 := c0'
  have c1 := c1'
  clear c0' c1'
  rw [HU.out]
  clear HU
  have z1 := scaleS_size c A
  have z2 := scaleS_size d A
  have HV : Hid (scaleS d (scaleS c A) = scaleS c (scaleS d A)) := scale_comm c d hc hd A
  go_wp2_with fail
  refine (scale1 c hc A nA w4).mono ?_; rintro e w5 ⟨rfl, k⟩
  have K5 := K4.trans k
  have c0' := k.held c0
  have c1' := k.held c1
  clear c0 c1 K4 k
  have c0 := c0'
  have c1 := c1'
  clear c0' c1'
  go_wp2_with fail
  refine (scale1 d hd (scaleS c A) (by omega) w5).mono ?_; rintro e w6 ⟨rfl, k⟩
  have K6 := K5.trans k
  have c0' := k.held c0
  have c1' := k.held c1
  clear c0 c1 K5 k
  have c0 := c0'
  have c1 := c1'
  clear c0' c1'
  rw [HV.out]
  clear HV
  go_wp2_with fail
  refine (scale1 d hd A nA w6).mono ?_; rintro e w7 ⟨rfl, k⟩
  have K7 := K6.trans k
  have c0' := k.held c0
  have c1' := k.held c1
  clear c0 c1 K6 k
  have c0 := c0'
  have c1 := c1'
  clear c0' c1'
  go_wp2_with fail
  refine (scale1 c hc (scaleS d A) (by omega) w7).mono ?_; rintro e w8 ⟨rfl, k⟩
  have K8 := K7.trans k
  have c0' := k.held c0
  have c1' := k.held c1
  clear c0 c1 K7 k
  have c0 := c0'
  have c1 := c1'
  clear c0' c1'
  obtain ⟨V, hV⟩ : ∃ V, V = scaleS c (scaleS d A) := ⟨_, rfl⟩
  rw [← hV]
  clear hV z1 z2
  have z3 := foldS_size A c B
  have HG : Hid (foldS (foldS A c B) c B = A) := fold_back A B c hc hAB
  have q0 := kpw_cell c0
  have q1 := kpw_cell c1
  go_wp2_with fail
  refine wp_region_kp (by kernel_rfl) (by kernel_rfl) ?_
  repeat (first
    | go_big_quiet_skip
    | (go_big_quiet_want; go_big_quiet_op; go_big_quiet_on)
    | (go_big_quiet_want; go_big_quiet_op; apply Exists.intro; refine ⟨fun p => ?_, ?_⟩; (focus (go_at_call 14; exact kp_call (fold2 A c hc B nA hAB _))); go_big_quiet_on))
  refine wpQuiet_nil ?_
  rintro w9 ⟨p, hp⟩
  have k : Kp w8 w9 := by rw [hp]; exact kpw_kp _ _
  clear hp q0 q1
  have K9 := K8.trans k
  have c0' := k.held c0
  have c1' := k.held c1
  clear c0 c1 K8 k
  have c0 := c0'
  have c1 := c1'
  clear c0' c1'
  obtain ⟨G, hG⟩ : ∃ G, G = foldS A c B := ⟨_, rfl⟩
  rw [← hG] at z3 HG ⊢
  clear hG
  go_wp2_with fail
  refine (fold2 G c hc B (by omega) (by omega) w9).mono ?_; rintro e w10 ⟨rfl, k⟩
  have K10 := K9.trans k
  have c0' := k.held c0
  have c1' := k.held c1
  clear c0 c1 K9 k
  have c0 := c0'
  have c1 := c1'
  clear c0' c1'
  rw [HG.out]
  clear HG
  go_wp2_with fail
  refine (wakes_any w10).mono ?_; rintro e wz ⟨rfl, k⟩
  have KZ := K10.trans k
  have c0' := k.held c0
  have c1' := k.held c1
  clear c0 c1 k
  go_wp2
  go_ret
  exact ⟨rfl, KZ⟩

set_option maxRecDepth 100000 in
theorem lifted (os : Os) (started : os.Started) (H : Type) (enc : TypeId × Value → H) :
    ReturnsInHanded {} Try.checked os 5 .any (Rows.bulkBackSpec.pre6 enc Try.prog Try.f5 Rows.bulkBackRow.domain false) (Rows.bulkBackSpec.post enc Try.prog Try.f5 false true false false) := by
  refine returnsInHanded_of_change (C := Try.checked) own started (by kernel_rfl) Try.func5
    (ChangeSpec.witness6 (enc := enc) (C := Try.checked) false ⟨#[], #[.agg #[.string ByteArray.empty, .string ByteArray.empty], .int .u8 0, .int .u8 0], []⟩ 8 (by kernel_rfl) (by kernel_rfl) (by kernel_rfl) (by kernel_rfl)) ?_
  intro W base args ds gs before hval0 hW hcnd _
  have hval : ∀ (j : Nat) t v, Try.f5.params[j]? = some t → args[j]? = some v → Value.okWide Try.prog W .any base t v := hval0
  have hW' := hW
  have hlt := hW.lt
  obtain ⟨p, q, hA0, hV, rfl, hfz, hnd⟩ := hW
  have hA : DataW.TrodAll enc Try.prog W 0 (fun _ => true) true Try.f5.params.toList args.toList ds p := hA0
  have hAk := hA
  rw [Try.params5] at hA hval
  obtain ⟨v0, vs0, d0, ds0, p0, q0, hargs, rfl, rfl, h0, r0⟩ := trodAll_cons hA
  obtain ⟨v1, vs1, d1, ds1, p1, q1, rfl, rfl, rfl, h1, r1⟩ := trodAll_cons r0
  obtain ⟨v2, vs2, d2, ds2, p2, q2, rfl, rfl, rfl, h2, r2⟩ := trodAll_cons r1
  obtain ⟨rfl, rfl, rfl⟩ := trodAll_nil r2
  obtain rfl : args = #[v0, v1, v2] := by cases args; simp_all
  obtain ⟨rfl, rfl⟩ := trodVars_none hV
  obtain ⟨a0, b0, rfl, w0, x0⟩ := open_two Try.underlying31 Try.underlying9 cellsS cellsT (hval 0 31 v0 rfl rfl) h0
  obtain ⟨a1, rfl, rfl, rfl, w1⟩ := open_int Try.underlying5 (hval 1 5 v1 rfl rfl) h1
  obtain ⟨a2, rfl, rfl, rfl, w2⟩ := open_int Try.underlying5 (hval 2 5 v2 rfl rfl) h2
  clear hA0 hval0
  simp only [List.append_nil] at hW' hAk hlt
  refine (walk W a0 b0 a1 a2 w0 x0 w1 w2).mono fun e W' ⟨he, hg⟩ => ?_
  subst he
  exact ⟨_, rfl, post_kp (pv := []) hW' (fun _ _ _ => (trodAll_cons_mk (shut_bool Try.underlying4 _) trodAll_mk0)) (fun sp hsp => trodAll_stays laidOut (by rw [Try.params5]; exact of_decide_eq_true (by kernel_rfl)) hAk (fun x hx => Below.same hg (hlt x hx)) hsp) (fun _ _ => rfl) (by simp) hg⟩

theorem over : Rows.bulkBackRow.holds Try.pinned (OpenSpec.ofChange Rows.bulkBackSpec) :=
  OpenClaim.holds_of_wide 5 Try.f5 rfl rfl rfl rfl rfl rfl rfl ⟨rfl, rfl, rfl, rfl, rfl⟩ rfl rfl rfl rfl rfl (by kernel_rfl) Try.func5 (by kernel_rfl)
    (of_decide_eq_true (by kernel_rfl)) (by unfold Func.isWrapper; first | (rw [if_pos (by decide +kernel)]; kernel_rfl) | (rw [if_neg (by decide +kernel)]; exact ⟨rfl, rfl⟩))
    (fun os started H enc _ => lifted os started H enc)

end Go.Proofs.Ytaiohofddlomlaa.bulkBack
namespace Go.Proofs.Ytaiohofddlomlaa
theorem bulkBack_holds : Rows.BulkBackSaid := bulkBack.over
end Go.Proofs.Ytaiohofddlomlaa
