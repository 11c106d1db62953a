/-
  RepairSorts: for every input the law answers true, and its arguments read as before. The condition: the kinds' names read as the package lays them.
-/
import Derived.Test.YtbcmgogfpboibaaGreatDoorRows
import Derived.Test.YtbcmgogfpboibaaGreatDoorCards
import Derived.Test.YtbcmgogfpboibaaGreatDoorTie
import Derived.Test.YtbcmgogfpboibaaGreatDoorRepArgs
import Derived.Test.YtbcmgogfpboibaaGreatDoorRepRefS
import Derived.WalkKit
import Derived.ProofKit
import Derived.OpenShut
import Derived.ShutString
import Derived.LaidMore
import Derived.SevenTiedAt
import Derived.Stop.Joined
namespace Go.Proofs.YtbcmgogfpboibaaGreatDoor.repairSorts
open Go.ChangeShapes Go.WideShapes Go.ChangeAt Go.RowKit
open Go.ChangeMaps (open_string shut_string)
open Plain Go.BigFrame
set_option linter.unusedVariables false

theorem own : ownKnob Tryz.prog.godebug = none := by kernel_rfl
theorem laidOut : laidOutB Tryz.prog = true := by kernel_rfl
theorem cellsI : Tryz.prog.cellsOf 3 = 1 := by kernel_rfl

set_option maxRecDepth 100000 in
set_option maxHeartbeats 8000000 in
theorem walk (w : World) (hN : Names w) (a0 : Int) (a1 : Value) (l1 : List Int) (a2 : Int) (w0 : (Lit.int .i64 a0).wf = true) (w1 : IntsIn w a1 l1) (w2 : (Lit.int .i64 a2).wf = true) :
    Calls Tryz.prog 3 #[.int .i64 a0, a1, .int .i64 a2] w fun e w' => e = .returned (.bool true) ∧ Kp w w' := by
  have key : ∀ (a : Option Addr) (len cap n : Nat) (l : List Int), len ≤ 9223372036854775807 → len ≤ cap → cap ≤ 9223372036854775807 → l.length * 8 ≤ 140737488355328 → IntsIn w (.slice a n cap) l → ((len ≤ 50 ∧ n = len) ∨ (50 < len ∧ n = 50)) → a1 = .slice a len cap → Calls Tryz.prog 3 #[.int .i64 a0, a1, .int .i64 a2] w fun e w' => e = .returned (.bool true) ∧ Kp w w' := by
    rintro a len cap n l h1 h2 h3 h4 hI hn rfl
    have hS1 := fun w' (q : Kp w w') => sort_any a0 _ l h4 w' (hI.kept q)
    have hR1 := fun w' (q : Kp w w') => rsort_any a0 _ l h4 w' (hI.kept q)
    have hS2 := fun w' (q : Kp w w') => sort_any (bits .and .i64 a0 31) _ l h4 w' (hI.kept q)
    have hR2 := fun w' (q : Kp w w') => rsort_any (bits .and .i64 a0 31) _ l h4 w' (hI.kept q)
    obtain ⟨A, hA⟩ : ∃ A, A = srK a0 l := ⟨_, rfl⟩
    obtain ⟨B, hB⟩ : ∃ B, B = srE a0 l := ⟨_, rfl⟩
    obtain ⟨C, hC⟩ : ∃ C, C = srK (bits .and .i64 a0 31) l := ⟨_, rfl⟩
    obtain ⟨D, hD⟩ : ∃ D, D = srE (bits .and .i64 a0 31) l := ⟨_, rfl⟩
    rw [← hA, ← hB] at hS1 hR1
    rw [← hC, ← hD] at hS2 hR2
    clear hA hB hC hD hI
    rcases hn with ⟨hn, rfl⟩ | ⟨hn, rfl⟩
    · have hm : min (n : Int) 50 = n := by omega
      go_enter Tryz.func3, Tryz.ntmps3
      go_wp2_with fail
      refine (hS1 w (Kp.refl w)).mono ?_; rintro e w1 ⟨rfl, k1⟩
      clear hm
      go_wp2_with fail
      refine (hR1 w1 k1).mono ?_; rintro e w2 ⟨rfl, k2⟩
      have K2 := k1.trans k2
      clear hS1 hR1 k1 k2
      go_wp2_with fail
      refine (hS2 w2 K2).mono ?_; rintro e w3 ⟨rfl, k3⟩
      have K3 := K2.trans k3
      go_wp2_with fail
      refine (hR2 w3 K3).mono ?_; rintro e w4 ⟨rfl, k4⟩
      have K4 := K3.trans k4
      clear hS2 hR2 K2 K3 k3 k4
      go_wp2_with fail
      refine (wakes5 w4 (hN.kp K4)).mono ?_; rintro e w5 ⟨rfl, k5⟩
      have K5 := K4.trans k5
      clear K4 k5
      go_wp2_with fail
      refine (name_any _ w5 (hN.kp K5)).mono ?_; rintro e w6 ⟨rfl, rfl⟩
      go_wp2_with fail
      refine (rname_any _ w6).mono ?_; rintro e w7 ⟨rfl, k7⟩
      have K7 := K5.trans k7
      clear K5 k7
      go_wp2_with fail
      refine (name_any _ w7 (hN.kp K7)).mono ?_; rintro e w8 ⟨rfl, rfl⟩
      go_wp2_with fail
      refine (rname_any _ w8).mono ?_; rintro e w9 ⟨rfl, k9⟩
      have K9 := K7.trans k9
      clear K7 k9
      go_wp2
      go_ret
      exact ⟨rfl, K9⟩

    · have hm : min (len : Int) 50 = 50 := by omega
      go_enter Tryz.func3, Tryz.ntmps3
      go_wp2_with fail
      refine (hS1 w (Kp.refl w)).mono ?_; rintro e w1 ⟨rfl, k1⟩
      clear hm
      go_wp2_with fail
      refine (hR1 w1 k1).mono ?_; rintro e w2 ⟨rfl, k2⟩
      have K2 := k1.trans k2
      clear hS1 hR1 k1 k2
      go_wp2_with fail
      refine (hS2 w2 K2).mono ?_; rintro e w3 ⟨rfl, k3⟩
      have K3 := K2.trans k3
      go_wp2_with fail
      refine (hR2 w3 K3).mono ?_; rintro e w4 ⟨rfl, k4⟩
      have K4 := K3.trans k4
      clear hS2 hR2 K2 K3 k3 k4
      go_wp2_with fail
      refine (wakes5 w4 (hN.kp K4)).mono ?_; rintro e w5 ⟨rfl, k5⟩
      have K5 := K4.trans k5
      clear K4 k5
      go_wp2_with fail
      refine (name_any _ w5 (hN.kp K5)).mono ?_; rintro e w6 ⟨rfl, rfl⟩
      go_wp2_with fail
      refine (rname_any _ w6).mono ?_; rintro e w7 ⟨rfl, k7⟩
      have K7 := K5.trans k7
      clear K5 k7
      go_wp2_with fail
      refine (name_any _ w7 (hN.kp K7)).mono ?_; rintro e w8 ⟨rfl, rfl⟩
      go_wp2_with fail
      refine (rname_any _ w8).mono ?_; rintro e w9 ⟨rfl, k9⟩
      have K9 := K7.trans k9
      clear K7 k9
      go_wp2
      go_ret
      exact ⟨rfl, K9⟩

  obtain ⟨a, len, cap, rfl⟩ : ∃ a len cap, a1 = .slice a len cap := by
    cases w1 with
    | empty a cap h => exact ⟨a, 0, cap, rfl⟩
    | some b off cap l h0 h1 h2 hc => exact ⟨_, _, cap, rfl⟩
  obtain ⟨e1, e2, e3, e4⟩ := w1.cut 50
  unfold maxLen at e3
  by_cases h50 : len ≤ 50
  · exact key a len cap len l1 (by omega) e2 (by omega) (by omega) w1 (.inl ⟨h50, rfl⟩) rfl
  · exact key a len cap 50 (l1.take 50) (by omega) e2 (by omega) (by rw [List.length_take]; omega) (e4 (by omega)) (.inr ⟨by omega, rfl⟩) rfl

set_option maxRecDepth 100000 in
theorem lifted (os : Os) (started : os.Started) (H : Type) (enc : TypeId × Value → H) :
    ReturnsInHanded {} Tryz.checked os 3 .any (fun w args => (Rows.repairSortsSpec.pre enc Tryz.prog Tryz.f3 [] false w args ∧ laidMetH Tryz.prog lz w) ∧ sizedMet enc Tryz.prog Tryz.f3 (OpenSpec.ofChange Rows.repairSortsSpec) false w args)
      (Rows.repairSortsSpec.post enc Tryz.prog Tryz.f3 false true false false) := by
  refine returnsInHanded_of_change_and (C := Tryz.checked) (X := fun w _ => laidMetH Tryz.prog lz w) (fun _ _ _ hh h => h.of_heap hh) own started (by kernel_rfl) Tryz.func3
    (ChangeSpec.witness_shaped (enc := enc) (C := Tryz.checked) (os := os) (X := fun w _ => laidMetH Tryz.prog lz w) false (World.doorLaid Tryz.prog 400 os) #[.int .i64 0, .slice none 0 0, .int .i64 0] 8 rfl (World.shaped_of_RefB (by kernel_rfl) (by kernel_rfl)) (by kernel_rfl) (by kernel_rfl) (by kernel_rfl) (door_met os _)) ?_
  intro W base args ds gs before hval0 hW hcnd _ hL _
  have hval : ∀ (j : Nat) t v, Tryz.f3.params[j]? = some t → args[j]? = some v → Value.okWide Tryz.prog W .any base t v := hval0
  have hW' := hW
  have hlt := hW.lt
  obtain ⟨p, q, hA0, hV, rfl, hfz, hnd⟩ := hW
  have hA : DataW.TrodAll enc Tryz.prog W 0 (fun _ => true) true Tryz.f3.params.toList args.toList ds p := hA0
  have hAk := hA
  rw [Tryz.params3] at hA hval
  obtain ⟨v0, vs0, d0, ds0, p0, q0, hargs, rfl, rfl, h0, r0⟩ := trodAll_cons hA
  obtain ⟨v1, vs1, d1, ds1, p1, q1, rfl, rfl, rfl, h1, r1⟩ := trodAll_cons r0
  obtain ⟨v2, vs2, d2, ds2, p2, q2, rfl, rfl, rfl, h2, r2⟩ := trodAll_cons r1
  obtain ⟨rfl, rfl, rfl⟩ := trodAll_nil r2
  obtain rfl : args = #[v0, v1, v2] := by cases args; simp_all
  obtain ⟨rfl, rfl⟩ := trodVars_none hV
  obtain ⟨a0, rfl, rfl, rfl, w0⟩ := open_int Tryz.underlying3 (hval 0 3 v0 rfl rfl) h0
  obtain ⟨l1, w1⟩ := open_intsL Tryz.underlying22 Tryz.underlying3 cellsI (hval 1 22 v1 rfl rfl) h1
  obtain ⟨a2, rfl, rfl, rfl, w2⟩ := open_int Tryz.underlying3 (hval 2 3 v2 rfl rfl) h2
  clear hA0 hval0
  simp only [List.append_nil] at hW' hAk hlt
  refine (walk W (of_laid hL) a0 v1 l1 a2 w0 w1 w2).mono fun e W' ⟨he, hg⟩ => ?_
  subst he
  exact ⟨_, rfl, post_kp (pv := []) hW' (fun _ _ _ => (trodAll_cons_mk (shut_bool Tryz.underlying4 _) trodAll_mk0)) (fun sp hsp => trodAll_stays laidOut (by rw [Tryz.params3]; exact of_decide_eq_true (by kernel_rfl)) hAk (fun x hx => Below.same hg (hlt x hx)) hsp) (fun _ _ => rfl) (by simp) hg⟩

theorem over : Rows.repairSortsRow.holds Tryz.pinned (OpenSpec.ofChange Rows.repairSortsSpec) :=
  OpenClaim.holds_of_wide 3 Tryz.f3 rfl rfl rfl rfl rfl rfl rfl ⟨rfl, rfl, rfl, rfl, rfl⟩ rfl rfl rfl rfl rfl (by kernel_rfl) Tryz.func3 (by kernel_rfl)
    (of_decide_eq_true (by kernel_rfl)) (by unfold Func.isWrapper; first | (rw [if_pos (by decide +kernel)]; kernel_rfl) | (rw [if_neg (by decide +kernel)]; exact ⟨rfl, rfl⟩))
    (fun os started H enc _ => lifted os started H enc)

theorem card : Claim7.holds Tryz.pinned (.plain (OpenSpec.ofChange Rows.repairSortsSpec)) Rows.repairSortsCard :=
  Claim7.holds_tied_plain_at .later [] [.data] true Rows.repairSortsCard.stood.harness false
    over (fun _ h => by cases h) (by kernel_rfl) (fun _ h => by cases h) repairSorts_row_tie rfl ⟨rfl, rfl⟩ (by kernel_rfl) rfl
    (fun f fn hf hfn => by
      have e : some f = some 3 := hf.symm.trans (by kernel_rfl)
      obtain rfl := Option.some.inj e
      obtain rfl : fn = Tryz.f3 := (Option.some.inj (Tryz.func3.symm.trans hfn)).symm
      exact ⟨by kernel_rfl, fun j t ht => by
        rw [Tryz.params3] at ht
        have hm : t ∈ [3, 22, 3] := by simpa using Array.mem_of_getElem? ht
        have hall : ([3, 22, 3].all fun u => !Tryz.prog.wantsStandIn u) = true := by kernel_rfl
        exact (show Tryz.prog.wantsStandIn t = false by simpa using List.all_eq_true.1 hall t hm)⟩)
    (by kernel_rfl)

end Go.Proofs.YtbcmgogfpboibaaGreatDoor.repairSorts
namespace Go.Proofs.YtbcmgogfpboibaaGreatDoor
theorem repairSorts_holds : Rows.RepairSortsCardSaid := repairSorts.card
end Go.Proofs.YtbcmgogfpboibaaGreatDoor
