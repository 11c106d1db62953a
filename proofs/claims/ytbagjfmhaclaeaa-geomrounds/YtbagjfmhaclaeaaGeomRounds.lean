/-
  For every geometry and every first stripe the law function GeomRounds returns true (Go: trunnionlaw09.GeomRounds). No condition.
-/
import Derived.Test.YtbagjfmhaclaeaaRows
import Derived.Test.YtbagjfmhaclaeaaBufArgs
import Derived.Test.YtbagjfmhaclaeaaGmMaps
import Derived.WalkKit
import Derived.ProofKit
import Derived.OpenShut
import Derived.ShutString
import Derived.Deep.QuietTactic
import Derived.BigQuiet
import Derived.Deep.RegionWith
import Derived.Deep.RegionHeld3
import Derived.Deep.DeepCutAuto
import Derived.Deep.CutBlock
namespace Go.Proofs.Ytbagjfmhaclaeaa.geomRounds
open Go.ChangeShapes Go.WideShapes Go.ChangeAt Go.RowKit
open Go.ChangeMaps (open_string shut_string)
open Go.Proofs.Ytbagjfmhaclaeaa Plain
set_option linter.unusedVariables false

theorem own : ownKnob Try.prog.godebug = none := by kernel_rfl
theorem laidOut : laidOutB Try.prog = true := by kernel_rfl
theorem cellsI : Try.prog.cellsOf 3 = 1 := by kernel_rfl
theorem cellsR : Try.prog.cellsOf 23 = 2 := by kernel_rfl
theorem mod_ne {N : Int} (a : Int) {j k : Nat} (h1 : j < k) (h2 : (k : Int) < N) : (a + (k : Int)) % N ≠ (a + (j : Int)) % N := by
  intro h
  have h3 := Int.emod_eq_emod_iff_emod_sub_eq_zero.1 h
  rw [show a + (k : Int) - (a + (j : Int)) = (k : Int) - (j : Int) by omega, Int.emod_eq_of_lt (by omega) (by omega)] at h3
  omega
theorem pM_ne {N : Int} (a : Int) {j k : Nat} (h1 : j < k) (h2 : (k : Int) < N) : pM N (a + (k : Int)) ≠ pM N (a + (j : Int)) := by
  have := mod_ne (N := N) a h1 h2
  unfold pM
  omega
theorem nxt_inj {N x y : Int} (h : nxt N x = nxt N y) (h1 : 0 ≤ x) (h2 : x < N) (h3 : 0 ≤ y) (h4 : y < N) : x = y := by
  unfold nxt at h
  split at h <;> split at h <;> omega
theorem mem_pq {N S t : Int} (hg : gg N S = true) (h1 : 0 ≤ t) (h2 : t < S) : mem N S t (N - 2) = (pM N t, 0) ∧ mem N S t (N - 2 + 1) = (nxt N (pM N t), 0) := by
  obtain ⟨g1, g2, g3, g4⟩ := (gg_iff N S).1 hg
  refine ⟨?_, ?_⟩
  · rw [← mM_p N t (by omega)]; exact (if_pos hg).trans (if_pos (by omega))
  · rw [← mM_q N t (by omega), show N - 2 + 1 = N - 1 by omega]; exact (if_pos hg).trans (if_pos (by omega))
set_option maxRecDepth 100000 in
set_option maxHeartbeats 4000000 in
theorem walkN (w : World) (n s f : Int) (hf1 : -9223372036854775808 ≤ f) (hf2 : f ≤ 9223372036854775807) :
    Calls Try.prog 8 #[.agg #[.int .i64 n, .int .i64 s], .int .i64 f] w fun e w' => e = .returned (.bool true) ∧ Kp w w' := by
  have hM := made_any n s
  have HE : Hid (gg (gN n) (gS s) = true) := gg_made n s
  have hn := gN_bd n
  have hs := gS_bd s
  unfold gV at hM
  obtain ⟨N, eN⟩ : ∃ N, N = gN n := ⟨_, rfl⟩
  obtain ⟨S, eS⟩ : ∃ S, S = gS s := ⟨_, rfl⟩
  rw [← eN] at hM HE hn
  rw [← eS] at hM HE hs
  obtain ⟨n1, n2⟩ := hn
  obtain ⟨s1, s2⟩ := hs
  clear eN eS
  have hmax := @imax Try.prog
  have hmm := @run_makeMap Try.prog
  go_enter Try.func8, Try.ntmps8
  go_wp2_with fail
  refine (hM _).mono ?_; rintro e w1 ⟨rfl, k1⟩
  have K1 : Hid (Kp w w1) := ((Kp.refl w).alloc _).trans k1
  clear hM k1
  by_cases hlt : S < N
  · have hd : decide (S < N) = true := decide_eq_true hlt
    go_wp2_with fail
    refine (wakes_any _).mono ?_; rintro e w2 ⟨rfl, k2⟩
    have K2 := (K1.out.alloc _).trans k2
    clear k2
    go_wp2
    go_ret
    exact ⟨rfl, K2⟩
  · have hd : decide (S < N) = false := decide_eq_false hlt
    have hz : (S - N + 1 == 0) = false := beq_eq_false_iff_ne.2 (by omega)
    have hr1 : (max 0 f).tmod (S - N + 1) = max 0 f % (S - N + 1) := Int.tmod_eq_emod_of_nonneg (by omega)
    have hrb := rem_bd (max 0 f) (n := S - N + 1) (by omega)
    obtain ⟨F, hF⟩ : ∃ F, max 0 f % (S - N + 1) = F := ⟨_, rfl⟩
    rw [hF] at hr1 hrb
    obtain ⟨f1, f2⟩ := hrb
    obtain ⟨M, rfl⟩ : ∃ M : Nat, N = M := ⟨N.toNat, by omega⟩
    have T : ((w1.alloc (.cells #[.int .i64 (M : Int), .int .i64 S] 24)).alloc (.map #[] 0)).alloc (.map #[] 0) = ((w1.alloc (.cells #[.int .i64 (M : Int), .int .i64 S] 24)).alloc (.map #[] 0)).alloc (.map #[] 0) := rfl
    obtain ⟨w2, hw2⟩ : ∃ w2, w2 = ((w1.alloc (.cells #[.int .i64 (M : Int), .int .i64 S] 24)).alloc (.map #[] 0)).alloc (.map #[] 0) := ⟨_, rfl⟩
    have HW2 : Hid (w2 = ((w1.alloc (.cells #[.int .i64 (M : Int), .int .i64 S] 24)).alloc (.map #[] 0)).alloc (.map #[] 0)) := hw2
    obtain ⟨gb, hgb⟩ : ∃ gb, gb = w1.heap.size := ⟨_, rfl⟩
    have HP : Hid (SetM w2 3 (gb + 1) 0 (fun _ => False)) := by
      rw [hw2, hgb]
      have h1 := (SetM.made (w1.alloc (.cells #[.int .i64 (M : Int), .int .i64 S] 24)) 3).kept ((Kp.refl _).alloc (.map #[] 0))
      rw [show (w1.alloc (.cells #[.int .i64 (M : Int), .int .i64 S] 24)).heap.size = w1.heap.size + 1 by simp] at h1
      exact h1
    have HQ : Hid (SetM w2 3 (gb + 1 + 1) 0 (fun _ => False)) := by
      rw [hw2, hgb]
      have h1 := SetM.made ((w1.alloc (.cells #[.int .i64 (M : Int), .int .i64 S] 24)).alloc (.map #[] 0)) 3
      rw [show ((w1.alloc (.cells #[.int .i64 (M : Int), .int .i64 S] 24)).alloc (.map #[] 0)).heap.size = w1.heap.size + 1 + 1 by simp] at h1
      exact h1
    have HC : Hid (w2.cell? ⟨gb, 0, none⟩ = some (.int .i64 (M : Int)) ∧ w2.cell? ⟨gb, 1, none⟩ = some (.int .i64 S)) := by
      rw [hw2, hgb]
      exact ⟨(((Kp.refl _).alloc _).alloc _).held (by rw [World.cell?_alloc_at _ _ _ _ rfl]; rfl), (((Kp.refl _).alloc _).alloc _).held (by rw [World.cell?_alloc_at _ _ _ _ rfl]; rfl)⟩
    have K2 : Hid (Kp w w2) := by rw [hw2]; exact ((K1.out.alloc _).alloc _).alloc _
    have hgw : w.heap.size ≤ gb := by rw [hgb]; exact K1.out.size
    have hgb2 := hgb.symm
    clear hw2 hgb T K1
    go_wp2
    rw [← HW2.out]
    clear HW2 hgb2 hF hr1 hz hmax hmm
    go_loopw [8] (fun i wr => ∃ k : Nat, k ≤ M ∧ i = .int .i64 (F + (k : Int)) ∧ Hid (SetM wr 3 (gb + 1) k (fun v => ∃ j : Nat, j < k ∧ v = .int .i64 (pM M (F + (j : Int))))) ∧ Hid (SetM wr 3 (gb + 1 + 1) k (fun v => ∃ j : Nat, j < k ∧ v = .int .i64 (nxt M (pM M (F + (j : Int)))))) ∧ Hid (wr.cell? ⟨gb, 0, none⟩ = some (.int .i64 (M : Int)) ∧ wr.cell? ⟨gb, 1, none⟩ = some (.int .i64 S)) ∧ Kp w wr) (fun i _ => (F + (M : Int) - intOf i).toNat)
    case atStart => exact ⟨0, by omega, by simp, HP.out.sub (fun _ h => h.elim), HQ.out.sub (fun _ h => h.elim), HC, K2.out⟩
    case round =>
      clear HP HQ HC K2
      obtain ⟨k, hk, rfl, HP, HQ, HC, hK⟩ := hrel
      obtain ⟨c0, c1⟩ := HC.out
      by_cases hlt2 : k < M
      · obtain ⟨m1, m2⟩ := mem_pq (t := F + (k : Int)) HE.out (by omega) (by omega)
        have h1 := data_any (M : Int) S
        rw [show dI (M : Int) S = (M : Int) - 2 from if_pos HE.out] at h1
        have h2 := member_any (M : Int) S (F + (k : Int)) ((M : Int) - 2)
        have h3 := member_any (M : Int) S (F + (k : Int)) ((M : Int) - 2 + 1)
        rw [m1] at h2
        rw [m2] at h3
        have hpb := pM_bd (F + (k : Int)) (n := (M : Int)) (by omega)
        have hqb := nxt_bd (M : Int) _ hpb.1 hpb.2
        have hqm := nxt_mod (M : Int) _ hpb.1 hpb.2
        have HNP : Hid (¬ ∃ j : Nat, j < k ∧ (.int .i64 (pM M (F + (k : Int))) : Value) = .int .i64 (pM M (F + (j : Int)))) := by
          rintro ⟨j, hj, e⟩
          simp only [Value.int.injEq, true_and] at e
          exact pM_ne F hj (by omega) e
        have HNQ : Hid (¬ ∃ j : Nat, j < k ∧ (.int .i64 (nxt M (pM M (F + (k : Int)))) : Value) = .int .i64 (nxt M (pM M (F + (j : Int))))) := by
          rintro ⟨j, hj, e⟩
          simp only [Value.int.injEq, true_and] at e
          have hjb := pM_bd (F + (j : Int)) (n := (M : Int)) (by omega)
          exact pM_ne F hj (by omega) (nxt_inj e hpb.1 hpb.2 hjb.1 hjb.2)
        obtain ⟨a, ea⟩ : ∃ a, a = pM M (F + (k : Int)) := ⟨_, rfl⟩
        obtain ⟨b, eb⟩ : ∃ b, b = nxt M (pM M (F + (k : Int))) := ⟨_, rfl⟩
        have EA : Hid (a = pM M (F + (k : Int))) := ea
        have EB : Hid (b = nxt M (pM M (F + (k : Int)))) := eb
        rw [← eb] at h3 hqb hqm HNQ
        rw [← ea] at h2 hpb hqm HNP
        unfold pT gV at h2 h3
        unfold gV at h1
        simp only at h2 h3
        obtain ⟨a1, a2⟩ := hpb
        obtain ⟨b1, b2⟩ := hqb
        have hqt : (a + 1).tmod (M : Int) = b := by rw [Int.tmod_eq_emod_of_nonneg (by omega)]; exact hqm.symm
        have hqe : (a + 1) % (M : Int) = b := hqm.symm
        have hM0 : ((M : Int) == 0) = false := beq_eq_false_iff_ne.2 (by omega)
        have q0 := kpw_cell c0
        have q1 := kpw_cell c1
        clear ea eb hqm m1 m2
        go_wp2_with fail
        refine wp_region_kp (by kernel_rfl) (by kernel_rfl) ?_
        repeat (first
          | go_big_quiet_skip
          | (go_big_quiet_want; go_big_quiet_op; go_big_quiet_on)
          | (go_big_quiet_want; go_big_quiet_op; apply Exists.intro; refine ⟨fun p => ?_, ?_⟩; (focus
              first
              | (go_at_call 12; exact kp_call (h1 _))
              | (go_at_call 21; exact kp_call (h2 _))); go_big_quiet_on))
        refine wpQuiet_nil ?_
        rintro w3 ⟨p, rfl⟩
        obtain ⟨w3, hw3⟩ : ∃ w3, w3 = kpw wr p := ⟨_, rfl⟩
        have k3 : Kp wr w3 := by rw [hw3]; exact kpw_kp wr p
        rw [← hw3]
        have r0 := kpw_cell (k3.held c0)
        have r1 := kpw_cell (k3.held c1)
        have K3 : Hid (Kp wr w3) := k3
        clear hw3 k3 q0 q1 c0 c1 h2
        go_wp2_with fail
        refine wp_region_kp (by kernel_rfl) (by kernel_rfl) ?_
        repeat (first
          | go_big_quiet_skip
          | (go_big_quiet_want; go_big_quiet_op; go_big_quiet_on)
          | (go_big_quiet_want; go_big_quiet_op; apply Exists.intro; refine ⟨fun p => ?_, ?_⟩; (focus
              first
              | (go_at_call 12; exact kp_call (h1 _))
              | (go_at_call 21; exact kp_call (h3 _))); go_big_quiet_on))
        refine wpQuiet_nil ?_
        rintro w4 ⟨p2, rfl⟩
        obtain ⟨w4, hw4⟩ : ∃ w4, w4 = kpw w3 p2 := ⟨_, rfl⟩
        have k4 : Kp wr w4 := by rw [hw4]; exact K3.out.trans (kpw_kp w3 p2)
        rw [← hw4]
        obtain ⟨c0, c1⟩ := HC.out
        have d0 := k4.held c0
        have d1 := k4.held c1
        have P4 := HP.out.kept k4
        have Q4 := HQ.out.kept k4
        have l1 := int_lit (a := a) (by omega) (by omega)
        have l2 := int_lit (a := b) (by omega) (by omega)
        have lk1 := P4.look (t := 57) int_key Try.underlying57 l1 HNP.out
        have lk2 := Q4.look (t := 57) int_key Try.underlying57 l2 HNQ.out
        obtain ⟨w5, up1, P5, g5⟩ := P4.put (t := 57) int_key Try.underlying57 l1 HNP.out (by omega)
        obtain ⟨w6, up2, Q6, g6⟩ := (Q4.grown g5 (by omega)).put (t := 57) int_key Try.underlying57 l2 HNQ.out (by omega)
        have HP6 : Hid (SetM w6 3 (gb + 1) (k + 1) (fun v => ∃ j : Nat, j < k + 1 ∧ v = .int .i64 (pM M (F + (j : Int))))) := (P5.grown g6 (by omega)).sub (fun v h => by
          rcases h with ⟨j, hj, e⟩ | e
          · exact ⟨j, by omega, e⟩
          · exact ⟨k, by omega, by rw [e, EA.out]⟩)
        have HQ6 : Hid (SetM w6 3 (gb + 1 + 1) (k + 1) (fun v => ∃ j : Nat, j < k + 1 ∧ v = .int .i64 (nxt M (pM M (F + (j : Int)))))) := Q6.sub (fun v h => by
          rcases h with ⟨j, hj, e⟩ | e
          · exact ⟨j, by omega, e⟩
          · exact ⟨k, by omega, by rw [e, EB.out]⟩)
        have HC6 : Hid (w6.cell? ⟨gb, 0, none⟩ = some (.int .i64 (M : Int)) ∧ w6.cell? ⟨gb, 1, none⟩ = some (.int .i64 S)) := ⟨g6.cell (g5.cell d0 (by simp)) (by simp; omega), g6.cell (g5.cell d1 (by simp)) (by simp; omega)⟩
        have K6 : Hid (Kp w w6) := ((hK.trans k4).grown g5 (fun q hq => by cases hq; omega)).grown g6 (fun q hq => by cases hq; omega)
        clear hw4 k4 c0 c1 r0 r1 P4 Q4 l1 l2 P5 Q6 g5 g6 HNP HNQ HP HQ HC K3 EA EB h1 h3 hK
        go_wp2
        go_roundw
        case rel => exact ⟨k + 1, by omega, by go_num, HP6, HQ6, HC6, K6.out⟩
        case measure => simp [intOf]; omega
      · obtain rfl : k = M := by omega
        go_wp2_with fail
        refine (wakes_any wr).mono ?_; rintro e w3 ⟨rfl, k3⟩
        have d0 := k3.held c0
        have d1 := k3.held c1
        have ln1 := (HP.out.kept k3).len (t := 57) Try.underlying57
        have ln2 := (HQ.out.kept k3).len (t := 57) Try.underlying57
        have K3 : Hid (Kp w w3) := hK.trans k3
        clear HP HQ HC hK k3 c0 c1
        go_wp2
        go_ret
        exact ⟨rfl, K3.out⟩
theorem walk (w : World) (a0 b0 : Int) (a1 : Int) (w0 : (Lit.int .i64 a0).wf = true) (x0 : (Lit.int .i64 b0).wf = true) (w1 : (Lit.int .i64 a1).wf = true) :
    Calls Try.prog 8 #[.agg #[.int .i64 a0, .int .i64 b0], .int .i64 a1] w fun e w' => e = .returned (.bool true) ∧ Kp w w' := by
  have hb := w1
  simp only [Lit.wf, Bool.and_eq_true, decide_eq_true_eq] at hb
  exact walkN w a0 b0 a1 hb.1 hb.2

set_option maxRecDepth 100000 in
theorem lifted (os : Os) (started : os.Started) (H : Type) (enc : TypeId × Value → H) :
    ReturnsInHanded {} Try.checked os 8 .any (Rows.geomRoundsSpec.pre6 enc Try.prog Try.f8 Rows.geomRoundsRow.domain false) (Rows.geomRoundsSpec.post enc Try.prog Try.f8 false true false false) := by
  refine returnsInHanded_of_change (C := Try.checked) own started (by kernel_rfl) Try.func8
    (ChangeSpec.witness6 (enc := enc) (C := Try.checked) false ⟨#[], #[.agg #[.int .i64 0, .int .i64 0], .int .i64 0], []⟩ 8 (by kernel_rfl) (by kernel_rfl) (by kernel_rfl) (by kernel_rfl)) ?_
  intro W base args ds gs before hval0 hW hcnd _
  have hval : ∀ (j : Nat) t v, Try.f8.params[j]? = some t → args[j]? = some v → Value.okWide Try.prog W .any base t v := hval0
  have hW' := hW
  have hlt := hW.lt
  obtain ⟨p, q, hA0, hV, rfl, hfz, hnd⟩ := hW
  have hA : DataW.TrodAll enc Try.prog W 0 (fun _ => true) true Try.f8.params.toList args.toList ds p := hA0
  have hAk := hA
  rw [Try.params8] at hA hval
  obtain ⟨v0, vs0, d0, ds0, p0, q0, hargs, rfl, rfl, h0, r0⟩ := trodAll_cons hA
  obtain ⟨v1, vs1, d1, ds1, p1, q1, rfl, rfl, rfl, h1, r1⟩ := trodAll_cons r0
  obtain ⟨rfl, rfl, rfl⟩ := trodAll_nil r1
  obtain rfl : args = #[v0, v1] := by cases args; simp_all
  obtain ⟨rfl, rfl⟩ := trodVars_none hV
  obtain ⟨a0, b0, rfl, w0, x0⟩ := open_span Try.underlying23 cellsR rfl rfl cellsI cellsI Try.underlying3 Try.underlying3 (hval 0 23 v0 rfl rfl) h0
  obtain ⟨a1, rfl, rfl, rfl, w1⟩ := open_int Try.underlying3 (hval 1 3 v1 rfl rfl) h1
  clear hA0 hval0
  simp only [List.append_nil] at hW' hAk hlt
  refine (walk W a0 b0 a1 w0 x0 w1).mono fun e W' ⟨he, hg⟩ => ?_
  subst he
  exact ⟨_, rfl, post_kp (pv := []) hW' (fun _ _ _ => (trodAll_cons_mk (shut_bool Try.underlying4 _) trodAll_mk0)) (fun sp hsp => trodAll_stays laidOut (by rw [Try.params8]; exact of_decide_eq_true (by kernel_rfl)) hAk (fun x hx => Below.same hg (hlt x hx)) hsp) (fun _ _ => rfl) (by simp) hg⟩

theorem over : Rows.geomRoundsRow.holds Try.pinned (OpenSpec.ofChange Rows.geomRoundsSpec) :=
  OpenClaim.holds_of_wide 8 Try.f8 rfl rfl rfl rfl rfl rfl rfl ⟨rfl, rfl, rfl, rfl, rfl⟩ rfl rfl rfl rfl rfl (by kernel_rfl) Try.func8 (by kernel_rfl)
    (of_decide_eq_true (by kernel_rfl)) (by unfold Func.isWrapper; first | (rw [if_pos (by decide +kernel)]; kernel_rfl) | (rw [if_neg (by decide +kernel)]; exact ⟨rfl, rfl⟩))
    (fun os started H enc _ => lifted os started H enc)

end Go.Proofs.Ytbagjfmhaclaeaa.geomRounds
namespace Go.Proofs.Ytbagjfmhaclaeaa
theorem geomRounds_holds : Rows.GeomRoundsSaid := geomRounds.over
end Go.Proofs.Ytbagjfmhaclaeaa
