/-
  RepairFixes: for every input the law answers true, and its arguments read as before. The condition: the kinds' names read as the package lays them.
-/
import Derived.Test.YtbcmgogfpboibaaGreatDoorRows
import Derived.Test.YtbcmgogfpboibaaGreatDoorCards
import Derived.Test.YtbcmgogfpboibaaGreatDoorTie
import Derived.Test.YtbcmgogfpboibaaGreatDoorRepArgs
import Derived.Test.YtbcmgogfpboibaaGreatDoorRepRefX
import Derived.Test.YtbcmgogfpboibaaGreatDoorRepCut
import Derived.WalkKit
import Derived.ProofKit
import Derived.OpenShut
import Derived.ShutString
import Derived.LaidMore
import Derived.SevenTiedAt
import Derived.Stop.Joined
import Derived.Deep.RegionWith
namespace Go.Proofs.YtbcmgogfpboibaaGreatDoor.repairFixes
open Go.ChangeShapes Go.WideShapes Go.ChangeAt Go.RowKit
open Go.ChangeMaps (open_string shut_string)
open Plain Go.BigFrame
set_option linter.unusedVariables false

theorem own : ownKnob Tryz.prog.godebug = none := by kernel_rfl
theorem laidOut : laidOutB Tryz.prog = true := by kernel_rfl
theorem cellsS : Tryz.prog.cellsOf 9 = 1 := by kernel_rfl
theorem cellsI : Tryz.prog.cellsOf 3 = 1 := by kernel_rfl

set_option maxRecDepth 100000 in
set_option maxHeartbeats 8000000 in
theorem walk (w : World) (hN : Names w) (a0 : Value) (l0 : List ByteArray) (a1 : Value) (l1 : List Int) (a2 : Bool) (w0 : StrsIn w a0 l0) (x0 : ∀ i, i < l0.length → (l0.getD i noS).size ≤ maxLen) (w1 : IntsIn w a1 l1) :
    Calls Tryz.prog 4 #[a0, a1, .bool a2] w fun e w' => e = .returned (.bool true) ∧ Kp w w' := by
  obtain ⟨sa, slen, scap, rfl⟩ : ∃ a len cap, a1 = .slice a len cap := by
    cases w1 with
    | empty a cap h => exact ⟨a, 0, cap, rfl⟩
    | some b off cap l h0 h1 h2 hc => exact ⟨_, _, cap, rfl⟩
  obtain ⟨e1, e2, e3, e4⟩ := w1.cut 10
  unfold maxLen at e3
  obtain ⟨rm, ql, hrm, hql, hqi⟩ : ∃ rm ql, ((slen ≤ 10 ∧ rm = slen) ∨ (10 < slen ∧ rm = 10)) ∧ List.length ql ≤ 10 ∧ IntsIn w (.slice sa rm scap) ql := by
    by_cases h5 : slen ≤ 10
    · exact ⟨slen, l1, .inl ⟨h5, rfl⟩, by omega, w1⟩
    · exact ⟨10, l1.take 10, .inr ⟨by omega, rfl⟩, by rw [List.length_take]; omega, e4 (by omega)⟩
  have hrn : min (slen : Int) 10 = (rm : Int) := by omega
  have hrc : rm ≤ scap := by omega
  have hlo : ql.length * 8 ≤ 140737488355328 := by omega
  have hcut := fun w' (q : Kp w w') => cut_any (n := 20) (by omega) a2 a0 l0 x0 w' (w0.kept q)
  have hMs := cutL_small (n := 20) (by omega) a2 l0 (min l0.length 36)
  have hMl := cutL_length (n := 20) a2 l0 (min l0.length 36)
  obtain ⟨q0, hq0⟩ : ∃ q, q = min l0.length 36 := ⟨_, rfl⟩
  rw [← hq0] at hcut hMs hMl
  obtain ⟨M, hM⟩ : ∃ M, M = cutL 20 a2 l0 q0 := ⟨_, rfl⟩
  rw [← hM] at hcut hMs hMl
  have HQ : Hid (IntsIn w (.slice sa rm scap) ql) := hqi
  have HMS : Hid (∀ i, i < M.length → (M.getD i noS).size ≤ maxLen) := hMs
  have HML : Hid (M.length = q0) := hMl
  obtain ⟨E, hE⟩ : ∃ E, E = fxE M ql := ⟨_, rfl⟩
  obtain ⟨X, hX⟩ : ∃ X, X = fxL M ql := ⟨_, rfl⟩
  have HEX : Hid (E = fxE M ql ∧ X = fxL M ql) := ⟨hE, hX⟩
  have hEE : (E == E) = true := by simp
  clear hq0 hM w1 e1 e2 e4 hrm hqi hMs hMl hE hX w0 x0
  go_enter Tryz.func4, Tryz.ntmps4
  go_upto_region 1 with fail
  go_region_with (go_at_call 14; refine (hcut _ (by exact (Kp.refl _).drew)).mono ?_; rintro e w1 ⟨va, rfl, ho, k1⟩)
  all_goals (
    have hS : StrsIn w1 va M := own_strs ho HML.out
    have K1 : Kp w w1 := ((Kp.refl w).drew).trans k1
    clear hcut ho k1 hrn
    go_wp2_with fail
    refine (fnew_any w1).mono ?_; rintro e w2 ⟨f, b, rfl, hF, k2, f2, b2⟩
    have hFi := fix_any w2 f b (fun _ => 0) hF (fun j hj => ⟨by decide, by decide⟩) va _ M ql (hS.kept k2) HMS.out (HQ.out.kept (K1.trans k2)) hlo
    rw [← HEX.out.1, ← HEX.out.2] at hFi
    go_wp2_with fail
    refine hFi.mono ?_; rintro e w3 ⟨v3, rfl, hR3, _, s3⟩
    have K13 : Kp w1 w3 := s3.kp k2 (by intro t ht; simp at ht; rcases ht with rfl | rfl <;> omega)
    have hRf := rfix_any w3 va _ M ql (hS.kept K13) HMS.out (HQ.out.kept (K1.trans K13)) hlo
    rw [← HEX.out.1, ← HEX.out.2] at hRf
    clear hFi s3 hF k2 f2 b2 hS
    go_wp2_with fail
    refine hRf.mono ?_; rintro e w4 ⟨v4, rfl, hR4, k4⟩
    have K4 := (K1.trans K13).trans k4
    replace hR3 := hR3.kept k4
    clear hRf k4 K13 K1
    go_wp2_with fail
    refine (wakes5 w4 (hN.kp K4)).mono ?_; rintro e w5 ⟨rfl, k5⟩
    have K5 := K4.trans k5
    have hEq := equal_any v3 v4 X X w5 (hR3.kept k5) (hR4.kept k5)
    rw [decide_eq_true rfl] at hEq
    clear K4 k5 hR3 hR4
    go_wp2_with fail
    refine hEq.mono ?_; rintro e w6 ⟨rfl, k6⟩
    have K6 := K5.trans k6
    clear hEq K5 k6
    go_wp2
    go_ret
    exact ⟨rfl, K6⟩)

set_option maxRecDepth 100000 in
theorem lifted (os : Os) (started : os.Started) (H : Type) (enc : TypeId × Value → H) :
    ReturnsInHanded {} Tryz.checked os 4 .any (fun w args => (Rows.repairFixesSpec.pre enc Tryz.prog Tryz.f4 [] false w args ∧ laidMetH Tryz.prog lz w) ∧ sizedMet enc Tryz.prog Tryz.f4 (OpenSpec.ofChange Rows.repairFixesSpec) false w args)
      (Rows.repairFixesSpec.post enc Tryz.prog Tryz.f4 false true false false) := by
  refine returnsInHanded_of_change_and (C := Tryz.checked) (X := fun w _ => laidMetH Tryz.prog lz w) (fun _ _ _ hh h => h.of_heap hh) own started (by kernel_rfl) Tryz.func4
    (ChangeSpec.witness_shaped (enc := enc) (C := Tryz.checked) (os := os) (X := fun w _ => laidMetH Tryz.prog lz w) false (World.doorLaid Tryz.prog 400 os) #[.slice none 0 0, .slice none 0 0, .bool false] 8 rfl (World.shaped_of_RefB (by kernel_rfl) (by kernel_rfl)) (by kernel_rfl) (by kernel_rfl) (by kernel_rfl) (door_met os _)) ?_
  intro W base args ds gs before hval0 hW hcnd _ hL _
  have hval : ∀ (j : Nat) t v, Tryz.f4.params[j]? = some t → args[j]? = some v → Value.okWide Tryz.prog W .any base t v := hval0
  have hW' := hW
  have hlt := hW.lt
  obtain ⟨p, q, hA0, hV, rfl, hfz, hnd⟩ := hW
  have hA : DataW.TrodAll enc Tryz.prog W 0 (fun _ => true) true Tryz.f4.params.toList args.toList ds p := hA0
  have hAk := hA
  rw [Tryz.params4] at hA hval
  obtain ⟨v0, vs0, d0, ds0, p0, q0, hargs, rfl, rfl, h0, r0⟩ := trodAll_cons hA
  obtain ⟨v1, vs1, d1, ds1, p1, q1, rfl, rfl, rfl, h1, r1⟩ := trodAll_cons r0
  obtain ⟨v2, vs2, d2, ds2, p2, q2, rfl, rfl, rfl, h2, r2⟩ := trodAll_cons r1
  obtain ⟨rfl, rfl, rfl⟩ := trodAll_nil r2
  obtain rfl : args = #[v0, v1, v2] := by cases args; simp_all
  obtain ⟨rfl, rfl⟩ := trodVars_none hV
  obtain ⟨l0, w0, x0⟩ := open_strs Tryz.underlying33 Tryz.underlying9 cellsS (hval 0 33 v0 rfl rfl) h0
  obtain ⟨l1, w1⟩ := open_intsL Tryz.underlying22 Tryz.underlying3 cellsI (hval 1 22 v1 rfl rfl) h1
  obtain ⟨a2, rfl, rfl, rfl⟩ := open_bool Tryz.underlying4 (hval 2 4 v2 rfl rfl) h2
  clear hA0 hval0
  simp only [List.append_nil] at hW' hAk hlt
  refine (walk W (of_laid hL) v0 l0 v1 l1 a2 w0 x0 w1).mono fun e W' ⟨he, hg⟩ => ?_
  subst he
  exact ⟨_, rfl, post_kp (pv := []) hW' (fun _ _ _ => (trodAll_cons_mk (shut_bool Tryz.underlying4 _) trodAll_mk0)) (fun sp hsp => trodAll_stays laidOut (by rw [Tryz.params4]; exact of_decide_eq_true (by kernel_rfl)) hAk (fun x hx => Below.same hg (hlt x hx)) hsp) (fun _ _ => rfl) (by simp) hg⟩

theorem over : Rows.repairFixesRow.holds Tryz.pinned (OpenSpec.ofChange Rows.repairFixesSpec) :=
  OpenClaim.holds_of_wide 4 Tryz.f4 rfl rfl rfl rfl rfl rfl rfl ⟨rfl, rfl, rfl, rfl, rfl⟩ rfl rfl rfl rfl rfl (by kernel_rfl) Tryz.func4 (by kernel_rfl)
    (of_decide_eq_true (by kernel_rfl)) (by unfold Func.isWrapper; first | (rw [if_pos (by decide +kernel)]; kernel_rfl) | (rw [if_neg (by decide +kernel)]; exact ⟨rfl, rfl⟩))
    (fun os started H enc _ => lifted os started H enc)

theorem card : Claim7.holds Tryz.pinned (.plain (OpenSpec.ofChange Rows.repairFixesSpec)) Rows.repairFixesCard :=
  Claim7.holds_tied_plain_at .later [] [.data] true Rows.repairFixesCard.stood.harness false
    over (fun _ h => by cases h) (by kernel_rfl) (fun _ h => by cases h) repairFixes_row_tie rfl ⟨rfl, rfl⟩ (by kernel_rfl) rfl
    (fun f fn hf hfn => by
      have e : some f = some 4 := hf.symm.trans (by kernel_rfl)
      obtain rfl := Option.some.inj e
      obtain rfl : fn = Tryz.f4 := (Option.some.inj (Tryz.func4.symm.trans hfn)).symm
      exact ⟨by kernel_rfl, fun j t ht => by
        rw [Tryz.params4] at ht
        have hm : t ∈ [33, 22, 4] := by simpa using Array.mem_of_getElem? ht
        have hall : ([33, 22, 4].all fun u => !Tryz.prog.wantsStandIn u) = true := by kernel_rfl
        exact (show Tryz.prog.wantsStandIn t = false by simpa using List.all_eq_true.1 hall t hm)⟩)
    (by kernel_rfl)

end Go.Proofs.YtbcmgogfpboibaaGreatDoor.repairFixes
namespace Go.Proofs.YtbcmgogfpboibaaGreatDoor
theorem repairFixes_holds : Rows.RepairFixesCardSaid := repairFixes.card
end Go.Proofs.YtbcmgogfpboibaaGreatDoor
