/-
  For every list of spans and every two spans the law function SpansOrder returns true (Go: trunnionlaw08.SpansOrder). No condition.
-/
import Derived.Test.YtmkmejdbhikomaaRows
import Derived.Test.YtmkmejdbhikomaaBufArgs
import Derived.Test.YtmkmejdbhikomaaSpMask
import Derived.WalkKit
import Derived.ProofKit
import Derived.OpenShut
import Derived.ShutString
import Derived.Deep.QuietTactic
import Derived.BigQuiet
import Derived.Deep.RegionWith
import Derived.Deep.DeepCutAuto
import Derived.Deep.CutBlock
namespace Go.Proofs.Ytmkmejdbhikomaa.spansOrder
open Go.ChangeShapes Go.WideShapes Go.ChangeAt Go.RowKit
open Go.ChangeMaps (open_string shut_string)
open Go.Proofs.Ytmkmejdbhikomaa Plain
set_option linter.unusedVariables false

theorem own : ownKnob Try.prog.godebug = none := by kernel_rfl
theorem laidOut : laidOutB Try.prog = true := by kernel_rfl
theorem cellsI : Try.prog.cellsOf 3 = 1 := by kernel_rfl
theorem cellsSp : Try.prog.cellsOf 23 = 2 := by kernel_rfl
set_option maxRecDepth 100000 in
set_option maxHeartbeats 4000000 in
theorem walkN (w : World) (v1 : Value) (l1 : List (Int × Int)) (x y z t : Int) (h1 : SpIn w v1 l1) :
    Calls Try.prog 8 #[v1, .agg #[.int .i64 x, .int .i64 y], .agg #[.int .i64 z, .int .i64 t]] w fun e w' => e = .returned (.bool true) ∧ Kp w w' := by
  obtain ⟨w0, hw0⟩ : ∃ w0, w0 = (w.alloc (.cells #[.int .i64 x, .int .i64 y] 23)).alloc (.cells #[.int .i64 z, .int .i64 t] 23) := ⟨_, rfl⟩
  have HW : Hid (w0 = (w.alloc (.cells #[.int .i64 x, .int .i64 y] 23)).alloc (.cells #[.int .i64 z, .int .i64 t] 23)) := hw0
  have k0 : Kp w w0 := by rw [hw0]; exact ((Kp.refl w).alloc _).alloc _
  have c0 : w0.cell? ⟨w.heap.size, 0, none⟩ = some (.int .i64 x) := by rw [hw0]; exact ((Kp.refl _).alloc _).held (by simp)
  have c1 : w0.cell? ⟨w.heap.size, 1, none⟩ = some (.int .i64 y) := by rw [hw0]; exact ((Kp.refl _).alloc _).held (by simp)
  have c2 : w0.cell? ⟨w.heap.size + 1, 0, none⟩ = some (.int .i64 z) := by rw [hw0, World.cell?_alloc_at _ _ _ _ (by simp)]; rfl
  have c3 : w0.cell? ⟨w.heap.size + 1, 1, none⟩ = some (.int .i64 t) := by rw [hw0, World.cell?_alloc_at _ _ _ _ (by simp)]; rfl
  have hA := lists_any v1 l1 true w0 (h1.kept k0)
  clear h1 hw0
  go_enter Try.func8, Try.ntmps8
  go_wp2_with fail
  rw [show (w.alloc (.cells #[.int .i64 x, .int .i64 y] 23)).alloc (.cells #[.int .i64 z, .int .i64 t] 23) = w0 from HW.out.symm]
  clear HW
  refine hA.mono ?_; rintro e w1 ⟨va, vz, L, rfl, hL, hG⟩
  have HG : Hid (G L) := hG (by trivial)
  have q0 := hL.k.held c0
  have q1 := hL.k.held c1
  have q2 := hL.k.held c2
  have q3 := hL.k.held c3
  have HA1 : Hid (SpIn w1 va L) := hL.a
  have hLl := hL.len
  have K1 : Hid (Kp w w1) := k0.trans hL.k
  have hb0 : w.heap.size + 1 < w1.heap.size := World.block_lt_of_cell? _ _ q2
  have hb1 : w.heap.size < w1.heap.size := by omega
  have hb2 : ¬ w.heap.size = w1.heap.size := by omega
  have hb3 : ¬ w.heap.size + 1 = w1.heap.size := by omega
  have hb4 : w.heap.size + 1 < w1.heap.size + 1 := by omega
  clear hA hL hG c0 c1 c2 c3 k0
  go_wp2_with fail
  go_cut [9, 10] (fun p q wx => ∃ b1 b2, p = .pointer (some ⟨b1, 0, none⟩) ∧ q = .pointer (some ⟨b2, 0, none⟩) ∧ (wx.cell? ⟨b1, 0, none⟩ = some (.int .i64 x) ∧ wx.cell? ⟨b1, 1, none⟩ = some (.int .i64 y) ∧ wx.cell? ⟨b2, 0, none⟩ = some (.int .i64 z) ∧ wx.cell? ⟨b2, 1, none⟩ = some (.int .i64 t)) ∧ Kp w1 wx)
  case first =>
    go_region
    all_goals (go_wp2_with fail; go_meet)
    · obtain ⟨⟨⟨t1, t2⟩, t3, t4⟩, t5⟩ := two_boxes w1 (.int .i64 x) (.int .i64 y) (.int .i64 z) (.int .i64 t) 30 30
      exact ⟨_, _, rfl, rfl, ⟨t1, t2, t3, t4⟩, t5⟩
    · obtain ⟨⟨⟨t1, t2⟩, t3, t4⟩, t5⟩ := two_boxes w1 (.int .i64 z) (.int .i64 t) (.int .i64 x) (.int .i64 y) 30 30
      exact ⟨_, _, rfl, rfl, ⟨t3, t4, t1, t2⟩, t5⟩
  obtain ⟨b1, b2, rfl, rfl, ⟨r0, r1, r2, r3⟩, k2⟩ := hcut
  obtain ⟨w2, hw2⟩ : ∃ w2, w2 = wc := ⟨_, rfl⟩
  rw [← hw2] at r0 r1 r2 r3 k2 ⊢
  have HA : Hid (∀ W, Kp w2 W → SpIn W va L) := fun W k => (HA1.out.kept k2).kept k
  have K2 : Hid (Kp w w2) := K1.out.trans k2
  clear hw2 q0 q1 q2 q3 k2 K1 HA1
  go_wp2_with fail
  refine (wakes_any w2).mono ?_; rintro e w3 ⟨rfl, k3⟩
  have q0 := k3.held r0
  have q1 := k3.held r1
  have q2 := k3.held r2
  have q3 := k3.held r3
  have K3 : Hid (Kp w2 w3) := k3
  have hg1 := good1_any (x, y) w3
  unfold spV at hg1
  simp only at hg1
  clear k3 r0 r1 r2 r3
  cases hg : gd (x, y) with
  | false =>
    rw [hg] at hg1
    clear hg HA
    go_wp2_with fail
    refine hg1.mono ?_; rintro e w4 ⟨rfl, k4⟩
    have K4 : Hid (Kp w w4) := (K2.out.trans K3.out).trans k4
    clear hg1 k4 K2 K3 q0 q1 q2 q3
    go_wp2_with fail
    refine (wakes_any w4).mono ?_; rintro e w5 ⟨rfl, k5⟩
    have K5 := K4.out.trans k5
    clear K4 k5
    go_wp2
    go_ret
    exact ⟨rfl, K5⟩
  | true =>
    rw [hg] at hg1
    have HS : Hid (gd (x, y) = true) := hg
    clear hg
    go_wp2_with fail
    refine hg1.mono ?_; rintro e w4 ⟨rfl, k4⟩
    have r0 := k4.held q0
    have r1 := k4.held q1
    have r2 := k4.held q2
    have r3 := k4.held q3
    have K4 : Hid (Kp w2 w4) := K3.out.trans k4
    have hg2 := good1_any (z, t) w4
    unfold spV at hg2
    simp only at hg2
    clear hg1 k4 K3 q0 q1 q2 q3
    cases hg : gd (z, t) with
    | false =>
      rw [hg] at hg2
      clear hg HA
      go_wp2_with fail
      refine hg2.mono ?_; rintro e w5 ⟨rfl, k5⟩
      have K5 : Hid (Kp w w5) := (K2.out.trans K4.out).trans k5
      clear hg2 k5 K2 K4 r0 r1 r2 r3
      go_wp2_with fail
      refine (wakes_any w5).mono ?_; rintro e w6 ⟨rfl, k6⟩
      have K6 := K5.out.trans k6
      clear K5 k6
      go_wp2
      go_ret
      exact ⟨rfl, K6⟩
    | true =>
      rw [hg] at hg2
      have HT : Hid (gd (z, t) = true) := hg
      clear hg
      go_wp2_with fail
      refine hg2.mono ?_; rintro e w5 ⟨rfl, k5⟩
      have q0 := k5.held r0
      have q1 := k5.held r1
      have q2 := k5.held r2
      have q3 := k5.held r3
      have K5 : Hid (Kp w2 w5) := K4.out.trans k5
      clear hg2 k5 K4 r0 r1 r2 r3
      have hO := add_any va L (x, y) w5 (HA.out _ K5.out) (by omega)
      unfold Res spV at hO
      simp only at hO
      rw [rf_of HG.out HS.out] at hO
      go_wp2_with fail
      refine hO.mono ?_; rintro e w6 ⟨vb, B, rfl, s6, k6, n6, t6, _⟩
      have HXB : Hid ((G B ∧ ∀ u, hs B u = (hs L u || inS (x, y) u)) ∧ B.length ≤ 81) := ⟨t6 (by trivial), by omega⟩
      have YB : Hid (∀ W, Kp w6 W → SpIn W vb B) := fun W k => s6.kept k
      have r0 := k6.held q0
      have r1 := k6.held q1
      have r2 := k6.held q2
      have r3 := k6.held q3
      have K6 : Hid (Kp w2 w6) := K5.out.trans k6
      clear hO s6 k6 n6 t6 K5 q0 q1 q2 q3
      have q0 := r0
      have q1 := r1
      have q2 := r2
      have q3 := r3
      clear r0 r1 r2 r3
      have hO := add_any vb B (z, t) w6 (YB.out _ (Kp.refl _)) (by have := HXB.out.2; omega)
      unfold Res spV at hO
      simp only at hO
      rw [rf_of HXB.out.1.1 HT.out] at hO
      go_wp2_with fail
      refine hO.mono ?_; rintro e w7 ⟨ve, E, rfl, s7, k7, n7, t7, _⟩
      have HXE : Hid ((G E ∧ ∀ u, hs E u = (hs B u || inS (z, t) u)) ∧ E.length ≤ 200) := ⟨t7 (by trivial), by have := HXB.out.2; omega⟩
      have YE : Hid (∀ W, Kp w7 W → SpIn W ve E) := fun W k => s7.kept k
      have r0 := k7.held q0
      have r1 := k7.held q1
      have r2 := k7.held q2
      have r3 := k7.held q3
      have K7 : Hid (Kp w2 w7) := K6.out.trans k7
      have ZB : Hid (∀ W, Kp w7 W → SpIn W vb B) := fun W k => YB.out W (k7.trans k)
      clear YB
      have YB := ZB
      clear ZB
      clear hO s7 k7 n7 t7 K6 q0 q1 q2 q3
      have q0 := r0
      have q1 := r1
      have q2 := r2
      have q3 := r3
      clear r0 r1 r2 r3
      have hO := add_any va L (z, t) w7 (HA.out _ K7.out) (by omega)
      unfold Res spV at hO
      simp only at hO
      rw [rf_of HG.out HT.out] at hO
      go_wp2_with fail
      refine hO.mono ?_; rintro e w8 ⟨vc, C, rfl, s8, k8, n8, t8, _⟩
      have HXC : Hid ((G C ∧ ∀ u, hs C u = (hs L u || inS (z, t) u)) ∧ C.length ≤ 81) := ⟨t8 (by trivial), by omega⟩
      have YC : Hid (∀ W, Kp w8 W → SpIn W vc C) := fun W k => s8.kept k
      have r0 := k8.held q0
      have r1 := k8.held q1
      have r2 := k8.held q2
      have r3 := k8.held q3
      have K8 : Hid (Kp w2 w8) := K7.out.trans k8
      have ZB : Hid (∀ W, Kp w8 W → SpIn W vb B) := fun W k => YB.out W (k8.trans k)
      clear YB
      have YB := ZB
      clear ZB
      have ZE : Hid (∀ W, Kp w8 W → SpIn W ve E) := fun W k => YE.out W (k8.trans k)
      clear YE
      have YE := ZE
      clear ZE
      clear hO s8 k8 n8 t8 K7 q0 q1 q2 q3
      have q0 := r0
      have q1 := r1
      have q2 := r2
      have q3 := r3
      clear r0 r1 r2 r3
      have hO := add_any vc C (x, y) w8 (YC.out _ (Kp.refl _)) (by have := HXC.out.2; omega)
      unfold Res spV at hO
      simp only at hO
      rw [rf_of HXC.out.1.1 HS.out] at hO
      go_wp2_with fail
      refine hO.mono ?_; rintro e w9 ⟨vf, F, rfl, s9, k9, n9, t9, _⟩
      have HXF : Hid ((G F ∧ ∀ u, hs F u = (hs C u || inS (x, y) u)) ∧ F.length ≤ 200) := ⟨t9 (by trivial), by have := HXC.out.2; omega⟩
      have YF : Hid (∀ W, Kp w9 W → SpIn W vf F) := fun W k => s9.kept k
      have r0 := k9.held q0
      have r1 := k9.held q1
      have r2 := k9.held q2
      have r3 := k9.held q3
      have K9 : Hid (Kp w2 w9) := K8.out.trans k9
      have ZB : Hid (∀ W, Kp w9 W → SpIn W vb B) := fun W k => YB.out W (k9.trans k)
      clear YB
      have YB := ZB
      clear ZB
      have ZE : Hid (∀ W, Kp w9 W → SpIn W ve E) := fun W k => YE.out W (k9.trans k)
      clear YE
      have YE := ZE
      clear ZE
      have ZC : Hid (∀ W, Kp w9 W → SpIn W vc C) := fun W k => YC.out W (k9.trans k)
      clear YC
      have YC := ZC
      clear ZC
      clear hO s9 k9 n9 t9 K8 q0 q1 q2 q3
      have q0 := r0
      have q1 := r1
      have q2 := r2
      have q3 := r3
      clear r0 r1 r2 r3
      have hO := add_any va L (x, y) w9 (HA.out _ K9.out) (by omega)
      unfold Res spV at hO
      simp only at hO
      rw [rf_of HG.out HS.out] at hO
      go_wp2_with fail
      refine hO.mono ?_; rintro e w10 ⟨vd, D, rfl, s10, k10, n10, t10, _⟩
      have HXD : Hid ((G D ∧ ∀ u, hs D u = (hs L u || inS (x, y) u)) ∧ D.length ≤ 81) := ⟨t10 (by trivial), by omega⟩
      have YD : Hid (∀ W, Kp w10 W → SpIn W vd D) := fun W k => s10.kept k
      have r0 := k10.held q0
      have r1 := k10.held q1
      have r2 := k10.held q2
      have r3 := k10.held q3
      have K10 : Hid (Kp w2 w10) := K9.out.trans k10
      have ZB : Hid (∀ W, Kp w10 W → SpIn W vb B) := fun W k => YB.out W (k10.trans k)
      clear YB
      have YB := ZB
      clear ZB
      have ZE : Hid (∀ W, Kp w10 W → SpIn W ve E) := fun W k => YE.out W (k10.trans k)
      clear YE
      have YE := ZE
      clear ZE
      have ZC : Hid (∀ W, Kp w10 W → SpIn W vc C) := fun W k => YC.out W (k10.trans k)
      clear YC
      have YC := ZC
      clear ZC
      have ZF : Hid (∀ W, Kp w10 W → SpIn W vf F) := fun W k => YF.out W (k10.trans k)
      clear YF
      have YF := ZF
      clear ZF
      clear hO s10 k10 n10 t10 K9 q0 q1 q2 q3
      have q0 := r0
      have q1 := r1
      have q2 := r2
      have q3 := r3
      clear r0 r1 r2 r3
      have hO := cut_any vd D (x, y) w10 (YD.out _ (Kp.refl _)) (by have := HXD.out.2; omega)
      unfold Res spV at hO
      simp only at hO
      rw [rf_of HXD.out.1.1 HS.out] at hO
      go_wp2_with fail
      refine hO.mono ?_; rintro e w11 ⟨vg, Q, rfl, s11, k11, n11, t11, _⟩
      have HXQ : Hid ((G Q ∧ ∀ u, hs Q u = (hs D u && !inS (x, y) u)) ∧ Q.length ≤ 200) := ⟨t11 (by trivial), by have := HXD.out.2; omega⟩
      have YQ : Hid (∀ W, Kp w11 W → SpIn W vg Q) := fun W k => s11.kept k
      have r0 := k11.held q0
      have r1 := k11.held q1
      have r2 := k11.held q2
      have r3 := k11.held q3
      have K11 : Hid (Kp w2 w11) := K10.out.trans k11
      have ZB : Hid (∀ W, Kp w11 W → SpIn W vb B) := fun W k => YB.out W (k11.trans k)
      clear YB
      have YB := ZB
      clear ZB
      have ZE : Hid (∀ W, Kp w11 W → SpIn W ve E) := fun W k => YE.out W (k11.trans k)
      clear YE
      have YE := ZE
      clear ZE
      have ZC : Hid (∀ W, Kp w11 W → SpIn W vc C) := fun W k => YC.out W (k11.trans k)
      clear YC
      have YC := ZC
      clear ZC
      have ZF : Hid (∀ W, Kp w11 W → SpIn W vf F) := fun W k => YF.out W (k11.trans k)
      clear YF
      have YF := ZF
      clear ZF
      have ZD : Hid (∀ W, Kp w11 W → SpIn W vd D) := fun W k => YD.out W (k11.trans k)
      clear YD
      have YD := ZD
      clear ZD
      clear hO s11 k11 n11 t11 K10 q0 q1 q2 q3
      have q0 := r0
      have q1 := r1
      have q2 := r2
      have q3 := r3
      clear r0 r1 r2 r3
      have hO := cut_any va L (x, y) w11 (HA.out _ K11.out) (by omega)
      unfold Res spV at hO
      simp only at hO
      rw [rf_of HG.out HS.out] at hO
      go_wp2_with fail
      refine hO.mono ?_; rintro e w12 ⟨vh, H, rfl, s12, k12, n12, t12, _⟩
      have HXH : Hid ((G H ∧ ∀ u, hs H u = (hs L u && !inS (x, y) u)) ∧ H.length ≤ 81) := ⟨t12 (by trivial), by omega⟩
      have YH : Hid (∀ W, Kp w12 W → SpIn W vh H) := fun W k => s12.kept k
      have r0 := k12.held q0
      have r1 := k12.held q1
      have r2 := k12.held q2
      have r3 := k12.held q3
      have K12 : Hid (Kp w2 w12) := K11.out.trans k12
      have ZB : Hid (∀ W, Kp w12 W → SpIn W vb B) := fun W k => YB.out W (k12.trans k)
      clear YB
      have YB := ZB
      clear ZB
      have ZE : Hid (∀ W, Kp w12 W → SpIn W ve E) := fun W k => YE.out W (k12.trans k)
      clear YE
      have YE := ZE
      clear ZE
      have ZC : Hid (∀ W, Kp w12 W → SpIn W vc C) := fun W k => YC.out W (k12.trans k)
      clear YC
      have YC := ZC
      clear ZC
      have ZF : Hid (∀ W, Kp w12 W → SpIn W vf F) := fun W k => YF.out W (k12.trans k)
      clear YF
      have YF := ZF
      clear ZF
      have ZD : Hid (∀ W, Kp w12 W → SpIn W vd D) := fun W k => YD.out W (k12.trans k)
      clear YD
      have YD := ZD
      clear ZD
      have ZQ : Hid (∀ W, Kp w12 W → SpIn W vg Q) := fun W k => YQ.out W (k12.trans k)
      clear YQ
      have YQ := ZQ
      clear ZQ
      clear hO s12 k12 n12 t12 K11 q0 q1 q2 q3
      have q0 := r0
      have q1 := r1
      have q2 := r2
      have q3 := r3
      clear r0 r1 r2 r3
      have hEF : F = E := HXF.out.1.1.one HXE.out.1.1 (fun u => by rw [HXF.out.1.2, HXE.out.1.2, HXC.out.1.2, HXB.out.1.2]; cases hs L u <;> cases inS (x, y) u <;> cases inS (z, t) u <;> rfl)
      have hQH : H = Q := HXH.out.1.1.one HXQ.out.1.1 (fun u => by rw [HXH.out.1.2, HXQ.out.1.2, HXD.out.1.2]; cases hs L u <;> cases inS (x, y) u <;> rfl)
      have sE := YE.out w12 (Kp.refl _)
      have sF := YF.out w12 (Kp.refl _)
      have sQ := YQ.out w12 (Kp.refl _)
      have sH := YH.out w12 (Kp.refl _)
      rw [hEF] at sF
      rw [hQH] at sH
      have hEl := HXE.out.2
      have hQl := HXQ.out.2
      clear hEF hQH HXF HXE HXC HXB HXH HXQ HXD YB YC YD YE YF YQ YH q0 q1 q2 q3
      obtain ⟨a1, d1, o1, p1, rfl, hA1⟩ := sE
      obtain ⟨a2, d2, o2, p2, rfl, hA2⟩ := sF
      obtain ⟨a3, d3, o3, p3, rfl, hA3⟩ := sQ
      obtain ⟨a4, d4, o4, p4, rfl, hA4⟩ := sH
      have HA1 : Hid (SpAt w12 a1 d1 o1 p1 E) := hA1
      have HA2 : Hid (SpAt w12 a2 d2 o2 p2 E) := hA2
      have HA3 : Hid (SpAt w12 a3 d3 o3 p3 Q) := hA3
      have HA4 : Hid (SpAt w12 a4 d4 o4 p4 Q) := hA4
      have ha1 := hA1.ha
      have ha2 := hA2.ha
      have ha3 := hA3.ha
      have ha4 := hA4.ha
      have l1 := hA1.le
      have l2 := hA2.le
      have l3 := hA3.le
      have l4 := hA4.le
      have m1 := hA1.mx
      have m2 := hA2.mx
      have m3 := hA3.mx
      have m4 := hA4.mx
      unfold maxLen at m1 m2 m3 m4
      obtain ⟨n, hn⟩ : ∃ n, n = E.length := ⟨_, rfl⟩
      obtain ⟨m, hm⟩ : ∃ m, m = Q.length := ⟨_, rfl⟩
      have HN : Hid (n = E.length) := hn
      have HM : Hid (m = Q.length) := hm
      rw [← hn] at ha1 ha2 l1 l2 hEl ⊢
      rw [← hm] at ha3 ha4 l3 l4 hQl ⊢
      clear hn hm hA1 hA2 hA3 hA4
      go_wp2
      go_loopw [112] (fun i wr => ∃ k : Nat, k ≤ n ∧ i = .int .i64 k ∧ Kp w12 wr) (fun i _ => n - (intOf i).toNat)
      case atStart => exact ⟨0, by omega, rfl, Kp.refl _⟩
      case round =>
        obtain ⟨k, hk, rfl, hK⟩ := hrel
        by_cases hlt : k < n
        · obtain rfl := ha1 (by omega)
          obtain rfl := ha2 (by omega)
          have g1 : k < E.length := by rw [← HN.out]; exact hlt
          have c0 := hK.held ((fun k g1 => (⟨HA1.out.c0 k g1, HA1.out.c1 k g1⟩ : _ ∧ _)) k g1).1
          have c1 := hK.held ((fun k g1 => (⟨HA1.out.c0 k g1, HA1.out.c1 k g1⟩ : _ ∧ _)) k g1).2
          have c2 := hK.held ((fun k g1 => (⟨HA2.out.c0 k g1, HA2.out.c1 k g1⟩ : _ ∧ _)) k g1).1
          have c3 := hK.held ((fun k g1 => (⟨HA2.out.c0 k g1, HA2.out.c1 k g1⟩ : _ ∧ _)) k g1).2
          have i4 : (k : Int) < (n : Int) := by omega
          obtain ⟨p, hp⟩ : ∃ p, p = E.getD k (0, 0) := ⟨_, rfl⟩
          rw [← hp] at c0 c1 c2 c3
          clear hp g1
          obtain ⟨p1', p2'⟩ := p
          simp only at c0 c1 c2 c3
          go_wp2_with fail
          go_quiet (fail)
          go_wp2
          go_roundw
          case rel => exact ⟨k + 1, by omega, by go_num, hK.drewN _⟩
          case measure => simp [intOf]; omega
        · obtain ⟨wb, hwb⟩ : ∃ wb, wb = wr := ⟨_, rfl⟩
          rw [← hwb] at hK ⊢
          have KB : Hid (Kp w12 wb) := hK
          clear hwb hK
          go_wp2
          go_loopw [127] (fun i wr => ∃ k : Nat, k ≤ m ∧ i = .int .i64 k ∧ Kp wb wr) (fun i _ => m - (intOf i).toNat)
          case atStart => exact ⟨0, by omega, rfl, Kp.refl _⟩
          case round =>
            obtain ⟨k, hk, rfl, hK⟩ := hrel
            by_cases hlt : k < m
            · obtain rfl := ha3 (by omega)
              obtain rfl := ha4 (by omega)
              have g1 : k < Q.length := by rw [← HM.out]; exact hlt
              have c0 := hK.held ((fun k g1 => (⟨KB.out.held (HA3.out.c0 k g1), KB.out.held (HA3.out.c1 k g1)⟩ : _ ∧ _)) k g1).1
              have c1 := hK.held ((fun k g1 => (⟨KB.out.held (HA3.out.c0 k g1), KB.out.held (HA3.out.c1 k g1)⟩ : _ ∧ _)) k g1).2
              have c2 := hK.held ((fun k g1 => (⟨KB.out.held (HA4.out.c0 k g1), KB.out.held (HA4.out.c1 k g1)⟩ : _ ∧ _)) k g1).1
              have c3 := hK.held ((fun k g1 => (⟨KB.out.held (HA4.out.c0 k g1), KB.out.held (HA4.out.c1 k g1)⟩ : _ ∧ _)) k g1).2
              have i4 : (k : Int) < (m : Int) := by omega
              obtain ⟨p, hp⟩ : ∃ p, p = Q.getD k (0, 0) := ⟨_, rfl⟩
              rw [← hp] at c0 c1 c2 c3
              clear hp g1
              obtain ⟨p1', p2'⟩ := p
              simp only at c0 c1 c2 c3
              go_wp2_with fail
              go_quiet (fail)
              go_wp2
              go_roundw
              case rel => exact ⟨k + 1, by omega, by go_num, hK.drewN _⟩
              case measure => simp [intOf]; omega
            · have KZ : Kp w wr := ((K2.out.trans K12.out).trans KB.out).trans hK
              clear hK
              go_wp2
              go_ret
              exact ⟨rfl, KZ⟩
theorem walk (w : World) (a0 : Value) (l0 : List (Int × Int)) (a1 b1 : Int) (a2 b2 : Int) (w0 : SpIn w a0 l0) (w1 : (Lit.int .i64 a1).wf = true) (x1 : (Lit.int .i64 b1).wf = true) (w2 : (Lit.int .i64 a2).wf = true) (x2 : (Lit.int .i64 b2).wf = true) :
    Calls Try.prog 8 #[a0, .agg #[.int .i64 a1, .int .i64 b1], .agg #[.int .i64 a2, .int .i64 b2]] w fun e w' => e = .returned (.bool true) ∧ Kp w w' := by
  exact walkN w a0 l0 a1 b1 a2 b2 w0

set_option maxRecDepth 100000 in
theorem lifted (os : Os) (started : os.Started) (H : Type) (enc : TypeId × Value → H) :
    ReturnsInHanded {} Try.checked os 8 .any (Rows.spansOrderSpec.pre6 enc Try.prog Try.f8 Rows.spansOrderRow.domain false) (Rows.spansOrderSpec.post enc Try.prog Try.f8 false true false false) := by
  refine returnsInHanded_of_change (C := Try.checked) own started (by kernel_rfl) Try.func8
    (ChangeSpec.witness6 (enc := enc) (C := Try.checked) false ⟨#[], #[.slice none 0 0, .agg #[.int .i64 0, .int .i64 0], .agg #[.int .i64 0, .int .i64 0]], []⟩ 8 (by kernel_rfl) (by kernel_rfl) (by kernel_rfl) (by kernel_rfl)) ?_
  intro W base args ds gs before hval0 hW hcnd _
  have hval : ∀ (j : Nat) t v, Try.f8.params[j]? = some t → args[j]? = some v → Value.okWide Try.prog W .any base t v := hval0
  have hW' := hW
  have hlt := hW.lt
  obtain ⟨p, q, hA0, hV, rfl, hfz, hnd⟩ := hW
  have hA : DataW.TrodAll enc Try.prog W 0 (fun _ => true) true Try.f8.params.toList args.toList ds p := hA0
  have hAk := hA
  rw [Try.params8] at hA hval
  obtain ⟨v0, vs0, d0, ds0, p0, q0, hargs, rfl, rfl, h0, r0⟩ := trodAll_cons hA
  obtain ⟨v1, vs1, d1, ds1, p1, q1, rfl, rfl, rfl, h1, r1⟩ := trodAll_cons r0
  obtain ⟨v2, vs2, d2, ds2, p2, q2, rfl, rfl, rfl, h2, r2⟩ := trodAll_cons r1
  obtain ⟨rfl, rfl, rfl⟩ := trodAll_nil r2
  obtain rfl : args = #[v0, v1, v2] := by cases args; simp_all
  obtain ⟨rfl, rfl⟩ := trodVars_none hV
  obtain ⟨l0, w0⟩ := open_spans Try.underlying24 Try.underlying23 cellsSp rfl rfl cellsI cellsI Try.underlying3 Try.underlying3 (hval 0 24 v0 rfl rfl) h0
  obtain ⟨a1, b1, rfl, w1, x1⟩ := open_span Try.underlying23 cellsSp rfl rfl cellsI cellsI Try.underlying3 Try.underlying3 (hval 1 23 v1 rfl rfl) h1
  obtain ⟨a2, b2, rfl, w2, x2⟩ := open_span Try.underlying23 cellsSp rfl rfl cellsI cellsI Try.underlying3 Try.underlying3 (hval 2 23 v2 rfl rfl) h2
  clear hA0 hval0
  simp only [List.append_nil] at hW' hAk hlt
  refine (walk W v0 l0 a1 b1 a2 b2 w0 w1 x1 w2 x2).mono fun e W' ⟨he, hg⟩ => ?_
  subst he
  exact ⟨_, rfl, post_kp (pv := []) hW' (fun _ _ _ => (trodAll_cons_mk (shut_bool Try.underlying4 _) trodAll_mk0)) (fun sp hsp => trodAll_stays laidOut (by rw [Try.params8]; exact of_decide_eq_true (by kernel_rfl)) hAk (fun x hx => Below.same hg (hlt x hx)) hsp) (fun _ _ => rfl) (by simp) hg⟩

theorem over : Rows.spansOrderRow.holds Try.pinned (OpenSpec.ofChange Rows.spansOrderSpec) :=
  OpenClaim.holds_of_wide 8 Try.f8 rfl rfl rfl rfl rfl rfl rfl ⟨rfl, rfl, rfl, rfl, rfl⟩ rfl rfl rfl rfl rfl (by kernel_rfl) Try.func8 (by kernel_rfl)
    (of_decide_eq_true (by kernel_rfl)) (by unfold Func.isWrapper; first | (rw [if_pos (by decide +kernel)]; kernel_rfl) | (rw [if_neg (by decide +kernel)]; exact ⟨rfl, rfl⟩))
    (fun os started H enc _ => lifted os started H enc)

end Go.Proofs.Ytmkmejdbhikomaa.spansOrder
namespace Go.Proofs.Ytmkmejdbhikomaa
theorem spansOrder_holds : Rows.SpansOrderSaid := spansOrder.over
end Go.Proofs.Ytmkmejdbhikomaa
