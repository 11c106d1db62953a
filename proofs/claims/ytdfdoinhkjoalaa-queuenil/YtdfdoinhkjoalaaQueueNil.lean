/-
  QueueNil: for every input the law answers true, and its arguments read as before. No condition.
-/
import Derived.Test.YtdfdoinhkjoalaaRows
import Derived.Test.YtdfdoinhkjoalaaBufArgs
import Derived.Test.YtdfdoinhkjoalaaQuNil
import Derived.WalkKit
import Derived.ProofKit
import Derived.OpenShut
import Derived.ShutString
import Derived.Deep.QuietTactic
import Derived.BigQuiet
import Derived.Deep.RegionWith
import Derived.Deep.RegionHeld3
import Derived.Deep.DeepCutAuto
import Derived.Deep.CutBlock
namespace Go.Proofs.Ytdfdoinhkjoalaa.queueNil
open Go.ChangeShapes Go.WideShapes Go.ChangeAt Go.RowKit
open Go.ChangeMaps (open_string shut_string)
open Go.Proofs.Ytdfdoinhkjoalaa Plain
set_option linter.unusedVariables false

theorem own : ownKnob Try.prog.godebug = none := by kernel_rfl
theorem laidOut : laidOutB Try.prog = true := by kernel_rfl
set_option maxRecDepth 100000 in
set_option maxHeartbeats 4000000 in
theorem walk (w : World) (a0 : QA) (w0 : AOk a0) :
    Calls Try.prog 7 #[aV a0] w fun e w' => e = .returned (.bool true) ∧ Kp w w' := by
  obtain ⟨b, d, odd, out⟩ := a0
  have hd : d < 256 := w0.d
  clear w0
  unfold aV acs
  simp only
  obtain ⟨W0, hW0⟩ : ∃ W0, W0 = w.alloc (.cells #[.int .i64 b, .int .u8 (d : Int), .bool odd, .bool out] 29) := ⟨_, rfl⟩
  have k0 : Kp w W0 := by rw [hW0]; exact (Kp.refl w).alloc _
  have c0 : W0.cell? ⟨w.heap.size, 0, none⟩ = some (.int .i64 b) := by rw [hW0, World.cell?_alloc_at _ _ _ _ rfl]; rfl
  have c1 : W0.cell? ⟨w.heap.size, 1, none⟩ = some (.int .u8 (d : Int)) := by rw [hW0, World.cell?_alloc_at _ _ _ _ rfl]; rfl
  have c2 : W0.cell? ⟨w.heap.size, 2, none⟩ = some (.bool odd) := by rw [hW0, World.cell?_alloc_at _ _ _ _ rfl]; rfl
  have HW := hid hW0
  clear hW0
  go_enter Try.func7, Try.ntmps7
  go_wp2_with fail
  rw [← HW.out]
  refine (nget b W0).mono ?_; rintro e w1 ⟨rfl, k1⟩
  have c0 := k1.held c0
  have c1 := k1.held c1
  have c2 := k1.held c2
  have k0 := k0.trans k1
  clear k1 HW
  go_wp2_with fail
  refine (ntake b w1).mono ?_; rintro e w2 ⟨rfl, k2⟩
  have c0 := k2.held c0
  have c1 := k2.held c1
  have c2 := k2.held c2
  have k0 := k0.trans k2
  clear k2
  unfold itV iz
  simp only
  have j2 := (Kp.refl w2).alloc (.cells #[.int .i64 0, .string noS, .int .i64 0] 31)
  obtain ⟨W2, hW2⟩ : ∃ W2, W2 = w2.alloc (.cells #[.int .i64 0, .string noS, .int .i64 0] 31) := ⟨_, rfl⟩
  have HW2 := hid hW2
  rw [← hW2] at j2
  clear hW2
  go_wp2_with fail
  rw [← HW2.out]
  refine (nold W2).mono ?_; rintro e w3 ⟨rfl, k3⟩
  have k3' := j2.trans k3
  have c0 := k3'.held c0
  have c1 := k3'.held c1
  have c2 := k3'.held c2
  have k0 := k0.trans k3'
  clear k3 k3' j2 HW2
  unfold itV iz
  simp only
  have j3 := (Kp.refl w3).alloc (.cells #[.int .i64 0, .string noS, .int .i64 0] 31)
  obtain ⟨W3, hW3⟩ : ∃ W3, W3 = w3.alloc (.cells #[.int .i64 0, .string noS, .int .i64 0] 31) := ⟨_, rfl⟩
  have HW3 := hid hW3
  rw [← hW3] at j3
  clear hW3
  have c0 := j3.held c0
  have c1 := j3.held c1
  have c2 := j3.held c2
  have q0 := kpw_cell c0
  have q1 := kpw_cell c1
  have q2 := kpw_cell c2
  have KK : Hid (Kp w W3) := k0.trans j3
  obtain ⟨ds, hds⟩ : ∃ ds, ds = scS d odd := ⟨_, rfl⟩
  have hS : ∀ W, Calls Try.prog 14 #[.int .u8 (d : Int), .bool odd] W fun e w' => e = .returned (.string ds) ∧ Kp W w' := fun W => by rw [hds]; exact sector_any d hd odd W
  clear hds c0 c1 c2 k0 j3
  go_wp2_with fail
  rw [← HW3.out]
  clear HW3
  refine wp_region_kp (by kernel_rfl) (by kernel_rfl) ?_
  repeat (first
    | go_big_quiet_skip
    | (go_big_quiet_want; go_big_quiet_op; go_big_quiet_on)
    | (go_big_quiet_want; go_big_quiet_op; apply Exists.intro; refine ⟨fun p => ?_, ?_⟩; (focus (first
        | (go_at_call 10; with_reducible exact kp_call (qwakes_any _))
        | (go_at_call 14; with_reducible exact kp_call (hS _))
        | (go_at_call 13; with_reducible exact kp_call (nput _ _ _))
        | (go_at_call 22; with_reducible exact kp_call (nlen _))
        | (go_at_call 25; with_reducible exact kp_call (nfull _))
        | (go_at_call 26; with_reducible exact kp_call (nitems _))
        | (go_at_call 19; with_reducible exact kp_call (nspans _))
        | (go_at_call 27; with_reducible exact kp_call (nclock _)))); go_big_quiet_on))
  refine wpQuiet_nil ?_
  rintro w7 ⟨p, hp⟩
  have K7 : Hid (Kp w w7) := by show Kp w w7; rw [hp]; exact KK.out.trans (kpw_kp _ p)
  clear hp q0 q1 q2 hS
  go_wp2
  go_ret
  exact ⟨rfl, K7.out⟩

set_option maxRecDepth 100000 in
theorem lifted (os : Os) (started : os.Started) (H : Type) (enc : TypeId × Value → H) :
    ReturnsInHanded {} Try.checked os 7 .any (Rows.queueNilSpec.pre6 enc Try.prog Try.f7 Rows.queueNilRow.domain false) (Rows.queueNilSpec.post enc Try.prog Try.f7 false true false false) := by
  refine returnsInHanded_of_change (C := Try.checked) own started (by kernel_rfl) Try.func7
    (ChangeSpec.witness6 (enc := enc) (C := Try.checked) false ⟨#[], #[.agg #[.int .i64 0, .int .u8 0, .bool false, .bool false]], []⟩ 8 (by kernel_rfl) (by kernel_rfl) (by kernel_rfl) (by kernel_rfl)) ?_
  intro W base args ds gs before hval0 hW hcnd _
  have hval : ∀ (j : Nat) t v, Try.f7.params[j]? = some t → args[j]? = some v → Value.okWide Try.prog W .any base t v := hval0
  have hW' := hW
  have hlt := hW.lt
  obtain ⟨p, q, hA0, hV, rfl, hfz, hnd⟩ := hW
  have hA : DataW.TrodAll enc Try.prog W 0 (fun _ => true) true Try.f7.params.toList args.toList ds p := hA0
  have hAk := hA
  rw [Try.params7] at hA hval
  obtain ⟨v0, vs0, d0, ds0, p0, q0, hargs, rfl, rfl, h0, r0⟩ := trodAll_cons hA
  obtain ⟨rfl, rfl, rfl⟩ := trodAll_nil r0
  obtain rfl : args = #[v0] := by cases args; simp_all
  obtain ⟨rfl, rfl⟩ := trodVars_none hV
  obtain ⟨a0, rfl, w0⟩ := open_a20 (hval 0 29 v0 rfl rfl) h0
  clear hA0 hval0
  simp only [List.append_nil] at hW' hAk hlt
  refine (walk W a0 w0).mono fun e W' ⟨he, hg⟩ => ?_
  subst he
  exact ⟨_, rfl, post_kp (pv := []) hW' (fun _ _ _ => (trodAll_cons_mk (shut_bool Try.underlying4 _) trodAll_mk0)) (fun sp hsp => trodAll_stays laidOut (by rw [Try.params7]; exact of_decide_eq_true (by kernel_rfl)) hAk (fun x hx => Below.same hg (hlt x hx)) hsp) (fun _ _ => rfl) (by simp) hg⟩

theorem over : Rows.queueNilRow.holds Try.pinned (OpenSpec.ofChange Rows.queueNilSpec) :=
  OpenClaim.holds_of_wide 7 Try.f7 rfl rfl rfl rfl rfl rfl rfl ⟨rfl, rfl, rfl, rfl, rfl⟩ rfl rfl rfl rfl rfl (by kernel_rfl) Try.func7 (by kernel_rfl)
    (of_decide_eq_true (by kernel_rfl)) (by unfold Func.isWrapper; first | (rw [if_pos (by decide +kernel)]; kernel_rfl) | (rw [if_neg (by decide +kernel)]; exact ⟨rfl, rfl⟩))
    (fun os started H enc _ => lifted os started H enc)

end Go.Proofs.Ytdfdoinhkjoalaa.queueNil
namespace Go.Proofs.Ytdfdoinhkjoalaa
theorem queueNil_holds : Rows.QueueNilSaid := queueNil.over
end Go.Proofs.Ytdfdoinhkjoalaa
