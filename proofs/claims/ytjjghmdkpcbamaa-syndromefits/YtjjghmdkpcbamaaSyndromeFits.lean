/-
  For every list of texts and every two texts the law function SyndromeFits returns true (Go: trunnionlaw04.SyndromeFits). No condition.
-/
import Derived.Test.YtjjghmdkpcbamaaRows
import Derived.Test.YtjjghmdkpcbamaaBufArgs
import Derived.Test.YtjjghmdkpcbamaaSynMore
import Derived.WalkKit
import Derived.ProofKit
import Derived.OpenShut
import Derived.ShutString
import Derived.BigQuiet
import Derived.Deep.RegionWith
import Derived.Deep.DeepCutAuto
namespace Go.Proofs.Ytjjghmdkpcbamaa.syndromeFits
open Go.ChangeShapes Go.WideShapes Go.ChangeAt Go.RowKit
open Go.ChangeMaps (open_string shut_string)
open Go.Proofs.Ytjjghmdkpcbamaa Plain Go.BigFrame
set_option linter.unusedVariables false

theorem own : ownKnob Try.prog.godebug = none := by kernel_rfl
theorem laidOut : laidOutB Try.prog = true := by kernel_rfl
theorem cellsS : Try.prog.cellsOf 9 = 1 := by kernel_rfl
theorem cellsT : Try.prog.cellsOf 37 = 2 := by kernel_rfl
set_option maxRecDepth 100000 in
set_option maxHeartbeats 8000000 in
theorem walk (w : World) (a0 : Value) (l0 : List ByteArray) (a1 b1 : ByteArray) (a2 : Bool) (w0 : StrsIn w a0 l0) (x0 : ∀ i, i < l0.length → (l0.getD i noS).size ≤ maxLen) (w1 : a1.size ≤ maxLen) (x1 : b1.size ≤ maxLen) :
    Calls Try.prog 5 #[a0, .agg #[.string a1, .string b1], .bool a2] w fun e w' => e = .returned (.bool true) ∧ Kp w w' := by
  obtain ⟨wb, hwb⟩ : ∃ w', w' = w.alloc (.cells #[.string a1, .string b1] 37) := ⟨_, rfl⟩
  have K0 : Kp w wb := by rw [hwb]; exact (Kp.refl w).alloc _
  have e0 : Laid wb w.heap.size 37 #[.string a1, .string b1] := by rw [hwb]; exact Laid.new _ _ _
  have HC := cut_any true a0 l0 x0 wb (w0.kept K0)
  have hzb : w.heap.size < wb.heap.size := e0.lt
  have HB : Hid (w.heap.size < wb.heap.size) := hzb
  clear hzb
  rw [hwb] at HC K0 e0
  go_enter Try.func5, Try.ntmps5
  go_wp2_with fail
  refine HC.mono ?_; rintro e w1 ⟨v, rfl, hown, k1⟩
  have K1 := K0.trans k1
  have e1 := e0.kept k1
  have hL := cutL_small true l0 (min l0.length 34)
  obtain ⟨L, hLe⟩ : ∃ L, L = cutL true l0 (min l0.length 34) := ⟨_, rfl⟩
  have hS1 : StrsIn w1 v L := by rw [hLe]; exact StrsIn.owned (by rw [cutL_length]; exact hown)
  rw [← hLe] at hL
  rw [← hwb] at hown
  have hlen : L.length = min l0.length 34 := by rw [hLe, cutL_length]
  rw [← hLe, ← hlen] at hown
  clear hLe w0 k1 K0 HC e0 hwb hlen
  go_wp2_with fail
  refine (rmake_any v L hL w1 hS1).mono ?_; rintro e w2 ⟨rfl, k⟩
  have K2 := K1.trans k
  have hS2 := hS1.kept k
  have e2 := e1.kept k
  have hown2 := k.own hown
  clear k K1 hS1 e1 hown
  have f0 := e2.frozen 0
  have f1 := e2.frozen 1
  have c0 : w2.cell? ⟨w.heap.size, 0, none⟩ = some (.string a1) := e2.cell 0
  have c1 : w2.cell? ⟨w.heap.size, 1, none⟩ = some (.string b1) := e2.cell 1
  by_cases ho : a2 = true
  case neg =>
    obtain rfl : a2 = false := by simpa using ho
    clear f0 f1 e2 ho hown2
    have hSf := hS2
    have KF := K2
    clear hS2 K2
    have q0 := kpw_cell c0
    have q1 := kpw_cell c1
    have qS : ∀ p, StrsIn (kpw w2 p) v L := fun p => hSf.kept (kpw_kp w2 p)
    go_wp2_with fail
    refine wp_region_kp (by kernel_rfl) (by kernel_rfl) ?_
    repeat (first
      | go_big_quiet_skip
      | (go_big_quiet_want; go_big_quiet_op; go_big_quiet_on)
      | (go_big_quiet_want; go_big_quiet_op; apply Exists.intro; refine ⟨fun p => ?_, ?_⟩; (focus (first | (go_at_call 12; exact kp_call (wakes_any _)) | (go_at_call 17; exact kp_call (fits_any v L hL _ _ _ (qS _))) | (go_at_call 18; exact kp_call (rfits_any v L hL _ _ _ (qS _))))); go_big_quiet_on))
    refine wpQuiet_nil ?_
    rintro w9 ⟨p, hp⟩
    have k : Kp w2 w9 := by rw [hp]; exact kpw_kp _ _
    clear hp q0 q1 qS
    go_wp2
    go_ret
    exact ⟨rfl, KF.trans k⟩
  subst ho
  by_cases hm : mkE L = 0
  · rw [hm]
    obtain ⟨P, hP⟩ : ∃ P, P = pS L := ⟨_, rfl⟩
    obtain ⟨Q, hQ⟩ : ∃ Q, Q = qS L := ⟨_, rfl⟩
    rw [← hP, ← hQ]
    clear hP hQ hm
    obtain ⟨w3, hw3⟩ : ∃ w', w' = (w2.setCell ⟨w.heap.size, 0, none⟩ (.string P)).setCell ⟨w.heap.size, 1, none⟩ (.string Q) := ⟨_, rfl⟩
    go_upto_region 5 with fail
    rw [← hw3]
    have e3 : Laid w3 w.heap.size 37 #[.string P, .string Q] := by rw [hw3]; exact (e2.set 0 (.string P)).set 1 (.string Q)
    have KF : Kp w w3 := by rw [hw3]; exact (K2.set _ 0 (Nat.le_refl _) _).set _ 1 (Nat.le_refl _) _
    have hSf : StrsIn w3 v L := by rw [hw3]; exact StrsIn.owned (ownsRow_setCell_below (ownsRow_setCell_below hown2 HB.out _) HB.out _)
    clear hw3 f0 f1 c0 c1 K2 hS2 e2 hown2
    have c0 : w3.cell? ⟨w.heap.size, 0, none⟩ = some (.string P) := e3.cell 0
    have c1 : w3.cell? ⟨w.heap.size, 1, none⟩ = some (.string Q) := e3.cell 1
    clear e3
    have q0 := kpw_cell c0
    have q1 := kpw_cell c1
    have qS : ∀ p, StrsIn (kpw w3 p) v L := fun p => hSf.kept (kpw_kp w3 p)
    go_wp2_with fail
    refine wp_region_kp (by kernel_rfl) (by kernel_rfl) ?_
    repeat (first
      | go_big_quiet_skip
      | (go_big_quiet_want; go_big_quiet_op; go_big_quiet_on)
      | (go_big_quiet_want; go_big_quiet_op; apply Exists.intro; refine ⟨fun p => ?_, ?_⟩; (focus (first | (go_at_call 12; exact kp_call (wakes_any _)) | (go_at_call 17; exact kp_call (fits_any v L hL _ _ _ (qS _))) | (go_at_call 18; exact kp_call (rfits_any v L hL _ _ _ (qS _))))); go_big_quiet_on))
    refine wpQuiet_nil ?_
    rintro w9 ⟨p, hp⟩
    have k : Kp w3 w9 := by rw [hp]; exact kpw_kp _ _
    clear hp q0 q1 qS
    go_wp2
    go_ret
    exact ⟨rfl, KF.trans k⟩

  · have hmn : (mkE L == 0) = false := by rw [beq_eq_false_iff_ne]; exact hm
    clear f0 f1 e2 hown2
    have hSf := hS2
    have KF := K2
    clear hS2 K2
    have q0 := kpw_cell c0
    have q1 := kpw_cell c1
    have qS : ∀ p, StrsIn (kpw w2 p) v L := fun p => hSf.kept (kpw_kp w2 p)
    go_wp2_with fail
    refine wp_region_kp (by kernel_rfl) (by kernel_rfl) ?_
    repeat (first
      | go_big_quiet_skip
      | (go_big_quiet_want; go_big_quiet_op; go_big_quiet_on)
      | (go_big_quiet_want; go_big_quiet_op; apply Exists.intro; refine ⟨fun p => ?_, ?_⟩; (focus (first | (go_at_call 12; exact kp_call (wakes_any _)) | (go_at_call 17; exact kp_call (fits_any v L hL _ _ _ (qS _))) | (go_at_call 18; exact kp_call (rfits_any v L hL _ _ _ (qS _))))); go_big_quiet_on))
    refine wpQuiet_nil ?_
    rintro w9 ⟨p, hp⟩
    have k : Kp w2 w9 := by rw [hp]; exact kpw_kp _ _
    clear hp q0 q1 qS
    go_wp2
    go_ret
    exact ⟨rfl, KF.trans k⟩


set_option maxRecDepth 100000 in
theorem lifted (os : Os) (started : os.Started) (H : Type) (enc : TypeId × Value → H) :
    ReturnsInHanded {} Try.checked os 5 .any (Rows.syndromeFitsSpec.pre6 enc Try.prog Try.f5 Rows.syndromeFitsRow.domain false) (Rows.syndromeFitsSpec.post enc Try.prog Try.f5 false true false false) := by
  refine returnsInHanded_of_change (C := Try.checked) own started (by kernel_rfl) Try.func5
    (ChangeSpec.witness6 (enc := enc) (C := Try.checked) false ⟨#[], #[.slice none 0 0, .agg #[.string ByteArray.empty, .string ByteArray.empty], .bool false], []⟩ 8 (by kernel_rfl) (by kernel_rfl) (by kernel_rfl) (by kernel_rfl)) ?_
  intro W base args ds gs before hval0 hW hcnd _
  have hval : ∀ (j : Nat) t v, Try.f5.params[j]? = some t → args[j]? = some v → Value.okWide Try.prog W .any base t v := hval0
  have hW' := hW
  have hlt := hW.lt
  obtain ⟨p, q, hA0, hV, rfl, hfz, hnd⟩ := hW
  have hA : DataW.TrodAll enc Try.prog W 0 (fun _ => true) true Try.f5.params.toList args.toList ds p := hA0
  have hAk := hA
  rw [Try.params5] at hA hval
  obtain ⟨v0, vs0, d0, ds0, p0, q0, hargs, rfl, rfl, h0, r0⟩ := trodAll_cons hA
  obtain ⟨v1, vs1, d1, ds1, p1, q1, rfl, rfl, rfl, h1, r1⟩ := trodAll_cons r0
  obtain ⟨v2, vs2, d2, ds2, p2, q2, rfl, rfl, rfl, h2, r2⟩ := trodAll_cons r1
  obtain ⟨rfl, rfl, rfl⟩ := trodAll_nil r2
  obtain rfl : args = #[v0, v1, v2] := by cases args; simp_all
  obtain ⟨rfl, rfl⟩ := trodVars_none hV
  obtain ⟨l0, w0, x0⟩ := open_strs Try.underlying22 Try.underlying9 cellsS (hval 0 22 v0 rfl rfl) h0
  obtain ⟨a1, b1, rfl, w1, x1⟩ := open_two Try.underlying37 Try.underlying9 cellsS cellsT (hval 1 37 v1 rfl rfl) h1
  obtain ⟨a2, rfl, rfl, rfl⟩ := open_bool Try.underlying4 (hval 2 4 v2 rfl rfl) h2
  clear hA0 hval0
  simp only [List.append_nil] at hW' hAk hlt
  refine (walk W v0 l0 a1 b1 a2 w0 x0 w1 x1).mono fun e W' ⟨he, hg⟩ => ?_
  subst he
  exact ⟨_, rfl, post_kp (pv := []) hW' (fun _ _ _ => (trodAll_cons_mk (shut_bool Try.underlying4 _) trodAll_mk0)) (fun sp hsp => trodAll_stays laidOut (by rw [Try.params5]; exact of_decide_eq_true (by kernel_rfl)) hAk (fun x hx => Below.same hg (hlt x hx)) hsp) (fun _ _ => rfl) (by simp) hg⟩

theorem over : Rows.syndromeFitsRow.holds Try.pinned (OpenSpec.ofChange Rows.syndromeFitsSpec) :=
  OpenClaim.holds_of_wide 5 Try.f5 rfl rfl rfl rfl rfl rfl rfl ⟨rfl, rfl, rfl, rfl, rfl⟩ rfl rfl rfl rfl rfl (by kernel_rfl) Try.func5 (by kernel_rfl)
    (of_decide_eq_true (by kernel_rfl)) (by unfold Func.isWrapper; first | (rw [if_pos (by decide +kernel)]; kernel_rfl) | (rw [if_neg (by decide +kernel)]; exact ⟨rfl, rfl⟩))
    (fun os started H enc _ => lifted os started H enc)

end Go.Proofs.Ytjjghmdkpcbamaa.syndromeFits
namespace Go.Proofs.Ytjjghmdkpcbamaa
theorem syndromeFits_holds : Rows.SyndromeFitsSaid := syndromeFits.over
end Go.Proofs.Ytjjghmdkpcbamaa
