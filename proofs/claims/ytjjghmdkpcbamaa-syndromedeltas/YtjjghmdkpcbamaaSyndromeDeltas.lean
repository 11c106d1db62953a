/-
  For every four texts and every number the law function SyndromeDeltas returns true (Go: trunnionlaw04.SyndromeDeltas). No condition.
-/
import Derived.Test.YtjjghmdkpcbamaaRows
import Derived.Test.YtjjghmdkpcbamaaBufArgs
import Derived.Test.YtjjghmdkpcbamaaSynMore
import Derived.WalkKit
import Derived.ProofKit
import Derived.OpenShut
import Derived.ShutString
import Derived.BigQuiet
import Derived.Deep.RegionWith
import Derived.Deep.DeepCutAuto
namespace Go.Proofs.Ytjjghmdkpcbamaa.syndromeDeltas
open Go.ChangeShapes Go.WideShapes Go.ChangeAt Go.RowKit
open Go.ChangeMaps (open_string shut_string)
open Go.Proofs.Ytjjghmdkpcbamaa Plain Go.BigFrame
set_option linter.unusedVariables false

theorem own : ownKnob Try.prog.godebug = none := by kernel_rfl
theorem laidOut : laidOutB Try.prog = true := by kernel_rfl
theorem cellsS : Try.prog.cellsOf 9 = 1 := by kernel_rfl
theorem cellsF : Try.prog.cellsOf 32 = 4 := by kernel_rfl
set_option maxRecDepth 100000 in
set_option maxHeartbeats 8000000 in
theorem walk (w : World) (a0 b0 c0 d0 : ByteArray) (a1 : Int) (a2 : Bool) (w0 : a0.size ≤ maxLen) (x0 : b0.size ≤ maxLen) (y0 : c0.size ≤ maxLen) (z0 : d0.size ≤ maxLen) (w1 : (Lit.int .i64 a1).wf = true) :
    Calls Try.prog 4 #[.agg #[.string a0, .string b0, .string c0, .string d0], .int .i64 a1, .bool a2] w fun e w' => e = .returned (.bool true) ∧ Kp w w' := by
  have hib := bounds_i64 w1
  have K0 : Kp w (w.alloc (.cells #[.string a0, .string b0, .string c0, .string d0] 32)) := (Kp.refl w).alloc _
  have HC := cut_any a2 _ [a0, b0, c0, d0] (small4 w0 x0 y0 z0) _ (StrsIn.lit4 w a0 b0 c0 d0 32)
  go_enter Try.func4, Try.ntmps4
  go_wp2_with fail
  refine HC.mono ?_; rintro e w1' ⟨v, rfl, hown, k1⟩
  have K1 := K0.trans k1
  clear K0 k1 HC
  have mA := cutE_le a2 [a0, b0, c0, d0] 0
  have mB := cutE_le a2 [a0, b0, c0, d0] 1
  have mC := cutE_le a2 [a0, b0, c0, d0] 2
  have mD := cutE_le a2 [a0, b0, c0, d0] 3
  obtain ⟨A, hAe⟩ : ∃ A, A = cutE a2 [a0, b0, c0, d0] 0 := ⟨_, rfl⟩
  obtain ⟨B, hBe⟩ : ∃ A, A = cutE a2 [a0, b0, c0, d0] 1 := ⟨_, rfl⟩
  obtain ⟨C, hCe⟩ : ∃ A, A = cutE a2 [a0, b0, c0, d0] 2 := ⟨_, rfl⟩
  obtain ⟨D, hDe⟩ : ∃ A, A = cutE a2 [a0, b0, c0, d0] 3 := ⟨_, rfl⟩
  have hS1 : StrsIn w1' v [A, B, C, D] := by rw [hAe, hBe, hCe, hDe]; exact StrsIn.owned hown
  rw [← hAe] at mA
  rw [← hBe] at mB
  rw [← hCe] at mC
  rw [← hDe] at mD
  clear hown hAe hBe hCe hDe w0 x0 y0 z0
  obtain ⟨b, off, cap, rfl, hcp, hcl, e0, e1, e2, e3⟩ := hS1.four
  clear hS1
  have HD := fun x => delta_any A B C D (by unfold maxLen; omega) (by unfold maxLen; omega) (by unfold maxLen; omega) (by unfold maxLen; omega) x
  have HR := fun x => rdelta_any A B C D (by unfold maxLen; omega) (by unfold maxLen; omega) (by unfold maxLen; omega) (by unfold maxLen; omega) x
  clear mA mB mC mD
  have hmk := mask31 a1
  go_wp2
  obtain ⟨W2, hW2⟩ : ∃ W2, W2 = w1'.alloc (.cells #[.int .i64 a1, .int .i64 (a1 % 32)] 3) := ⟨_, rfl⟩
  have k2 : Kp w1' W2 := by rw [hW2]; exact (Kp.refl _).alloc _
  have g0 : W2.cell? ⟨w1'.heap.size, 0, none⟩ = some (.int .i64 a1) := by rw [hW2, World.cell?_alloc_at _ _ _ _ rfl]; rfl
  have g1 : W2.cell? ⟨w1'.heap.size, 1, none⟩ = some (.int .i64 (a1 % 32)) := by rw [hW2, World.cell?_alloc_at _ _ _ _ rfl]; rfl
  rw [← hW2]
  have K2 := K1.trans k2
  have d0 := k2.held e0
  have d1 := k2.held e1
  have d2 := k2.held e2
  have d3 := k2.held e3
  clear hW2 k2 K1 e0 e1 e2 e3 hmk
  obtain ⟨m, hm⟩ : ∃ m, m = w1'.heap.size := ⟨_, rfl⟩
  rw [← hm] at g0 g1 ⊢
  clear hm
  go_loopw [24] (fun i wr => ∃ k : Nat, k ≤ 2 ∧ i = .int .i64 k ∧ Kp W2 wr) (fun i _ => 2 - (intOf i).toNat)
  case atStart => exact ⟨0, by omega, rfl, Kp.refl _⟩
  case round =>
    obtain ⟨k, hk, rfl, K3⟩ := hrel
    obtain ⟨w3, hw3⟩ : ∃ w', w' = wr := ⟨_, rfl⟩
    rw [← hw3] at K3 ⊢
    clear hw3
    by_cases hlt : k < 2
    · obtain ⟨x, gx⟩ : ∃ x : Int, w3.cell? ⟨m, k, none⟩ = some (.int .i64 x) := by
        rcases (show k = 0 ∨ k = 1 by omega) with rfl | rfl
        · exact ⟨a1, K3.held g0⟩
        · exact ⟨a1 % 32, K3.held g1⟩
      have c0 := K3.held d0
      have c1 := K3.held d1
      have c2 := K3.held d2
      have c3 := K3.held d3
      have q0 := kpw_cell c0
      have q1 := kpw_cell c1
      have q2 := kpw_cell c2
      have q3 := kpw_cell c3
      go_wp2_with fail
      refine wp_region_kp (by kernel_rfl) (by kernel_rfl) ?_
      repeat (first
        | go_big_quiet_skip
        | (go_big_quiet_want; go_big_quiet_op; go_big_quiet_on)
        | (go_big_quiet_want; go_big_quiet_op; apply Exists.intro; refine ⟨fun p => ?_, ?_⟩; (focus (go_at_call 15; exact kp_call (HD x _))); go_big_quiet_on))
      refine wpQuiet_nil ?_
      rintro w4 ⟨p, hp⟩
      have k : Kp w3 w4 := by rw [hp]; exact kpw_kp _ _
      clear hp q0 q1 q2 q3
      have K4 := K3.trans k
      have c0' := k.held c0
      have c1' := k.held c1
      have c2' := k.held c2
      have c3' := k.held c3
      clear c0 c1 c2 c3 K3 k
      have c0 := c0'
      have c1 := c1'
      have c2 := c2'
      have c3 := c3'
      clear c0' c1' c2' c3'
      have q0 := kpw_cell c0
      have q1 := kpw_cell c1
      have q2 := kpw_cell c2
      have q3 := kpw_cell c3
      go_wp2_with fail
      refine wp_region_kp (by kernel_rfl) (by kernel_rfl) ?_
      repeat (first
        | go_big_quiet_skip
        | (go_big_quiet_want; go_big_quiet_op; go_big_quiet_on)
        | (go_big_quiet_want; go_big_quiet_op; apply Exists.intro; refine ⟨fun p => ?_, ?_⟩; (focus (go_at_call 16; exact kp_call (HR x _))); go_big_quiet_on))
      refine wpQuiet_nil ?_
      rintro w5 ⟨p, hp⟩
      have k : Kp w4 w5 := by rw [hp]; exact kpw_kp _ _
      clear hp q0 q1 q2 q3
      have K5 := K4.trans k
      have c0' := k.held c0
      have c1' := k.held c1
      have c2' := k.held c2
      have c3' := k.held c3
      clear c0 c1 c2 c3 K4 k
      have c0 := c0'
      have c1 := c1'
      have c2 := c2'
      have c3 := c3'
      clear c0' c1' c2' c3'
      go_wp2
      go_roundw
      case rel => exact ⟨k + 1, by omega, by go_num, K5⟩
      case measure => simp [intOf] <;> omega
    · obtain rfl : k = 2 := by omega
      go_wp2_with fail
      refine (wakes_any w3).mono ?_; rintro e wz ⟨rfl, kz⟩
      go_wp2
      go_ret
      exact ⟨rfl, K2.trans (K3.trans kz)⟩

set_option maxRecDepth 100000 in
theorem lifted (os : Os) (started : os.Started) (H : Type) (enc : TypeId × Value → H) :
    ReturnsInHanded {} Try.checked os 4 .any (Rows.syndromeDeltasSpec.pre6 enc Try.prog Try.f4 Rows.syndromeDeltasRow.domain false) (Rows.syndromeDeltasSpec.post enc Try.prog Try.f4 false true false false) := by
  refine returnsInHanded_of_change (C := Try.checked) own started (by kernel_rfl) Try.func4
    (ChangeSpec.witness6 (enc := enc) (C := Try.checked) false ⟨#[], #[.agg #[.string ByteArray.empty, .string ByteArray.empty, .string ByteArray.empty, .string ByteArray.empty], .int .i64 0, .bool false], []⟩ 8 (by kernel_rfl) (by kernel_rfl) (by kernel_rfl) (by kernel_rfl)) ?_
  intro W base args ds gs before hval0 hW hcnd _
  have hval : ∀ (j : Nat) t v, Try.f4.params[j]? = some t → args[j]? = some v → Value.okWide Try.prog W .any base t v := hval0
  have hW' := hW
  have hlt := hW.lt
  obtain ⟨p, q, hA0, hV, rfl, hfz, hnd⟩ := hW
  have hA : DataW.TrodAll enc Try.prog W 0 (fun _ => true) true Try.f4.params.toList args.toList ds p := hA0
  have hAk := hA
  rw [Try.params4] at hA hval
  obtain ⟨v0, vs0, d0, ds0, p0, q0, hargs, rfl, rfl, h0, r0⟩ := trodAll_cons hA
  obtain ⟨v1, vs1, d1, ds1, p1, q1, rfl, rfl, rfl, h1, r1⟩ := trodAll_cons r0
  obtain ⟨v2, vs2, d2, ds2, p2, q2, rfl, rfl, rfl, h2, r2⟩ := trodAll_cons r1
  obtain ⟨rfl, rfl, rfl⟩ := trodAll_nil r2
  obtain rfl : args = #[v0, v1, v2] := by cases args; simp_all
  obtain ⟨rfl, rfl⟩ := trodVars_none hV
  obtain ⟨a0, b0, c0, d0, rfl, w0, x0, y0, z0⟩ := open_four Try.underlying32 Try.underlying9 cellsS cellsF (hval 0 32 v0 rfl rfl) h0
  obtain ⟨a1, rfl, rfl, rfl, w1⟩ := open_int Try.underlying3 (hval 1 3 v1 rfl rfl) h1
  obtain ⟨a2, rfl, rfl, rfl⟩ := open_bool Try.underlying4 (hval 2 4 v2 rfl rfl) h2
  clear hA0 hval0
  simp only [List.append_nil] at hW' hAk hlt
  refine (walk W a0 b0 c0 d0 a1 a2 w0 x0 y0 z0 w1).mono fun e W' ⟨he, hg⟩ => ?_
  subst he
  exact ⟨_, rfl, post_kp (pv := []) hW' (fun _ _ _ => (trodAll_cons_mk (shut_bool Try.underlying4 _) trodAll_mk0)) (fun sp hsp => trodAll_stays laidOut (by rw [Try.params4]; exact of_decide_eq_true (by kernel_rfl)) hAk (fun x hx => Below.same hg (hlt x hx)) hsp) (fun _ _ => rfl) (by simp) hg⟩

theorem over : Rows.syndromeDeltasRow.holds Try.pinned (OpenSpec.ofChange Rows.syndromeDeltasSpec) :=
  OpenClaim.holds_of_wide 4 Try.f4 rfl rfl rfl rfl rfl rfl rfl ⟨rfl, rfl, rfl, rfl, rfl⟩ rfl rfl rfl rfl rfl (by kernel_rfl) Try.func4 (by kernel_rfl)
    (of_decide_eq_true (by kernel_rfl)) (by unfold Func.isWrapper; first | (rw [if_pos (by decide +kernel)]; kernel_rfl) | (rw [if_neg (by decide +kernel)]; exact ⟨rfl, rfl⟩))
    (fun os started H enc _ => lifted os started H enc)

end Go.Proofs.Ytjjghmdkpcbamaa.syndromeDeltas
namespace Go.Proofs.Ytjjghmdkpcbamaa
theorem syndromeDeltas_holds : Rows.SyndromeDeltasSaid := syndromeDeltas.over
end Go.Proofs.Ytjjghmdkpcbamaa
