/-
  For every list of spans, every span and every number the law function SpansPlaces returns true (Go: trunnionlaw08.SpansPlaces). No condition.
-/
import Derived.Test.YtmkmejdbhikomaaRows
import Derived.Test.YtmkmejdbhikomaaBufArgs
import Derived.Test.YtmkmejdbhikomaaSpMask
import Derived.WalkKit
import Derived.ProofKit
import Derived.OpenShut
import Derived.ShutString
import Derived.Deep.QuietTactic
import Derived.BigQuiet
import Derived.Deep.RegionWith
import Derived.Deep.DeepCutAuto
import Derived.Deep.CutBlock
namespace Go.Proofs.Ytmkmejdbhikomaa.spansPlaces
open Go.ChangeShapes Go.WideShapes Go.ChangeAt Go.RowKit
open Go.ChangeMaps (open_string shut_string)
open Go.Proofs.Ytmkmejdbhikomaa Plain
set_option linter.unusedVariables false

theorem own : ownKnob Try.prog.godebug = none := by kernel_rfl
theorem laidOut : laidOutB Try.prog = true := by kernel_rfl
theorem cellsI : Try.prog.cellsOf 3 = 1 := by kernel_rfl
theorem cellsSp : Try.prog.cellsOf 23 = 2 := by kernel_rfl
theorem tots {L B C D H : List (Int × Int)} {s : (Int × Int)} (hg : gd s = true) (gL : G L) (gB : G B) (gC : G C) (gD : G D) (gH : G H) (hB : ∀ z, hs B z = (hs L z || inS s z)) (hC : ∀ z, hs C z = (hs L z && !inS s z)) (hD : ∀ z, hs D z = (hs L z && inS s z)) (hH : ∀ z, hs H z = (inS s z && !hs L z)) :
    tot B = tot C + (s.2 - s.1) ∧ tot D + tot H = s.2 - s.1 ∧ tot C + tot D = tot L := by
  rw [← gd_cnt hg, gB.tot, gC.tot, gD.tot, gH.tot, gL.tot]
  refine ⟨?_, ?_, ?_⟩
  · refine cnt_add _ _ _ (fun z => ?_) (fun z => ?_) _
    · rw [hB, hC]; cases hs L z <;> cases inS s z <;> rfl
    · rw [hC]; cases hs L z <;> cases inS s z <;> rfl
  · refine (cnt_add _ _ _ (fun z => ?_) (fun z => ?_) _).symm
    · rw [hD, hH]; cases hs L z <;> cases inS s z <;> rfl
    · rw [hD, hH]; cases hs L z <;> cases inS s z <;> rfl
  · refine (cnt_add _ _ _ (fun z => ?_) (fun z => ?_) _).symm
    · rw [hC, hD]; cases hs L z <;> cases inS s z <;> rfl
    · rw [hC, hD]; cases hs L z <;> cases inS s z <;> rfl
theorem tot_b {l : List (Int × Int)} (h : G l) : 0 ≤ tot l ∧ tot l ≤ 1099511627777 := by have := tot_take h l.length; rwa [List.take_length] at this
theorem totI_of {l : List (Int × Int)} (h : G l) : totI l = tot l := if_pos ((gL_iff l).2 h)
set_option maxRecDepth 100000 in
set_option maxHeartbeats 4000000 in
theorem walkN (w : World) (v1 : Value) (l1 : List (Int × Int)) (x y at' : Int) (h1 : SpIn w v1 l1) (ha1 : -9223372036854775808 ≤ at') (ha2 : at' ≤ 9223372036854775807) :
    Calls Try.prog 7 #[v1, .agg #[.int .i64 x, .int .i64 y], .int .i64 at'] w fun e w' => e = .returned (.bool true) ∧ Kp w w' := by
  obtain ⟨w0, hw0⟩ : ∃ w0, w0 = w.alloc (.cells #[.int .i64 x, .int .i64 y] 23) := ⟨_, rfl⟩
  have HW : Hid (w0 = w.alloc (.cells #[.int .i64 x, .int .i64 y] 23)) := hw0
  have k0 : Kp w w0 := by rw [hw0]; exact (Kp.refl w).alloc _
  have c0 : w0.cell? ⟨w.heap.size, 0, none⟩ = some (.int .i64 x) := by rw [hw0]; simp
  have c1 : w0.cell? ⟨w.heap.size, 1, none⟩ = some (.int .i64 y) := by rw [hw0]; simp
  have hA := lists_any v1 l1 true w0 (h1.kept k0)
  clear h1 hw0
  go_enter Try.func7, Try.ntmps7
  go_wp2_with fail
  rw [show w.alloc (.cells #[.int .i64 x, .int .i64 y] 23) = w0 from HW.out.symm]
  clear HW
  refine hA.mono ?_; rintro e w1 ⟨va, vz, L, rfl, hL, hG⟩
  have HG : Hid (G L) := hG (by trivial)
  have q0 := hL.k.held c0
  have q1 := hL.k.held c1
  obtain ⟨w2, hw2⟩ : ∃ w2, w2 = w1.alloc (.cells #[.int .i64 x, .int .i64 y] 30) := ⟨_, rfl⟩
  have HW2 : Hid (w2 = w1.alloc (.cells #[.int .i64 x, .int .i64 y] 30)) := hw2
  have HA : Hid (∀ W, Kp w2 W → SpIn W va L) := fun W k => by rw [hw2] at k; exact (hL.a.kept ((Kp.refl w1).alloc _)).kept k
  have hLl := hL.len
  have K2 : Hid (Kp w w2) := by rw [hw2]; exact (k0.trans hL.k).alloc _
  have r0 : w2.cell? ⟨w1.heap.size, 0, none⟩ = some (.int .i64 x) := by rw [hw2]; simp
  have r1 : w2.cell? ⟨w1.heap.size, 1, none⟩ = some (.int .i64 y) := by rw [hw2]; simp
  have hb0 : w.heap.size < w1.heap.size := World.block_lt_of_cell? _ _ q0
  clear hA hL hG c0 c1 k0 hw2
  go_wp2_with fail
  rw [show w1.alloc (.cells #[.int .i64 x, .int .i64 y] 30) = w2 from HW2.out.symm]
  clear HW2 q0 q1
  refine (wakes_any w2).mono ?_; rintro e w3 ⟨rfl, k3⟩
  have q0 := k3.held r0
  have q1 := k3.held r1
  have K3 : Hid (Kp w2 w3) := k3
  have hg1 := good1_any (x, y) w3
  unfold spV at hg1
  simp only at hg1
  clear k3 r0 r1
  cases hg : gd (x, y) with
  | false =>
    rw [hg] at hg1
    clear hg HA
    go_wp2_with fail
    refine hg1.mono ?_; rintro e w4 ⟨rfl, k4⟩
    have K4 : Hid (Kp w w4) := (K2.out.trans K3.out).trans k4
    clear hg1 k4 K2 K3 q0 q1
    go_wp2_with fail
    refine (wakes_any w4).mono ?_; rintro e w5 ⟨rfl, k5⟩
    have K5 := K4.out.trans k5
    clear K4 k5
    go_wp2
    go_ret
    exact ⟨rfl, K5⟩
  | true =>
    rw [hg] at hg1
    have HS : Hid (gd (x, y) = true) := hg
    obtain ⟨g1, g2, g3⟩ := (gd_iff _).1 hg
    simp only [mA] at g1 g2 g3
    have hz : Hid (rfE L (x, y) = 0) := rf_of HG.out hg
    clear hg
    go_wp2_with fail
    refine hg1.mono ?_; rintro e w4 ⟨rfl, k4⟩
    have r0 := k4.held q0
    have r1 := k4.held q1
    have K4 : Hid (Kp w2 w4) := K3.out.trans k4
    clear hg1 k4 K3 q0 q1
    have hO := add_any va L (x, y) w4 (HA.out _ K4.out) (by omega)
    unfold Res spV at hO
    simp only at hO
    rw [hz.out] at hO
    go_wp2_with fail
    refine hO.mono ?_; rintro e w5 ⟨vb, B, rfl, s5, k5, n5, t5, _⟩
    have HXB : Hid ((G B ∧ ∀ z, hs B z = (hs L z || inS (x, y) z)) ∧ B.length ≤ 81) := ⟨t5 (by trivial), by omega⟩
    have YB : Hid (∀ W, Kp w5 W → SpIn W vb B) := fun W k => s5.kept k
    have q0 := k5.held r0
    have q1 := k5.held r1
    have K5 : Hid (Kp w2 w5) := K4.out.trans k5
    clear hO s5 k5 n5 t5 K4 r0 r1
    have r0 := q0
    have r1 := q1
    clear q0 q1
    have hO := cut_any va L (x, y) w5 (HA.out _ K5.out) (by omega)
    unfold Res spV at hO
    simp only at hO
    rw [hz.out] at hO
    go_wp2_with fail
    refine hO.mono ?_; rintro e w6 ⟨vc, C, rfl, s6, k6, n6, t6, _⟩
    have HXC : Hid ((G C ∧ ∀ z, hs C z = (hs L z && !inS (x, y) z)) ∧ C.length ≤ 81) := ⟨t6 (by trivial), by omega⟩
    have YC : Hid (∀ W, Kp w6 W → SpIn W vc C) := fun W k => s6.kept k
    have q0 := k6.held r0
    have q1 := k6.held r1
    have K6 : Hid (Kp w2 w6) := K5.out.trans k6
    have ZB : Hid (∀ W, Kp w6 W → SpIn W vb B) := fun W k => YB.out W (k6.trans k)
    clear YB
    have YB := ZB
    clear ZB
    clear hO s6 k6 n6 t6 K5 r0 r1
    have r0 := q0
    have r1 := q1
    clear q0 q1
    have hO := meet_any va L (x, y) w6 (HA.out _ K6.out) (by omega)
    unfold Res spV at hO
    simp only at hO
    rw [hz.out] at hO
    go_wp2_with fail
    refine hO.mono ?_; rintro e w7 ⟨vd, D, rfl, s7, k7, n7, t7, _⟩
    have HXD : Hid ((G D ∧ ∀ z, hs D z = (hs L z && inS (x, y) z)) ∧ D.length ≤ 81) := ⟨t7 (by trivial), by omega⟩
    have YD : Hid (∀ W, Kp w7 W → SpIn W vd D) := fun W k => s7.kept k
    have q0 := k7.held r0
    have q1 := k7.held r1
    have K7 : Hid (Kp w2 w7) := K6.out.trans k7
    have ZB : Hid (∀ W, Kp w7 W → SpIn W vb B) := fun W k => YB.out W (k7.trans k)
    clear YB
    have YB := ZB
    clear ZB
    have ZC : Hid (∀ W, Kp w7 W → SpIn W vc C) := fun W k => YC.out W (k7.trans k)
    clear YC
    have YC := ZC
    clear ZC
    clear hO s7 k7 n7 t7 K6 r0 r1
    have r0 := q0
    have r1 := q1
    clear q0 q1
    have hO := gaps_any va L (x, y) w7 (HA.out _ K7.out) (by omega)
    unfold Res spV at hO
    simp only at hO
    rw [hz.out] at hO
    go_wp2_with fail
    refine hO.mono ?_; rintro e w8 ⟨vh, H, rfl, s8, k8, n8, t8, _⟩
    have HXH : Hid ((G H ∧ ∀ z, hs H z = (inS (x, y) z && !hs L z)) ∧ H.length ≤ 81) := ⟨t8 (by trivial), by omega⟩
    have YH : Hid (∀ W, Kp w8 W → SpIn W vh H) := fun W k => s8.kept k
    have q0 := k8.held r0
    have q1 := k8.held r1
    have K8 : Hid (Kp w2 w8) := K7.out.trans k8
    have ZB : Hid (∀ W, Kp w8 W → SpIn W vb B) := fun W k => YB.out W (k8.trans k)
    clear YB
    have YB := ZB
    clear ZB
    have ZC : Hid (∀ W, Kp w8 W → SpIn W vc C) := fun W k => YC.out W (k8.trans k)
    clear YC
    have YC := ZC
    clear ZC
    have ZD : Hid (∀ W, Kp w8 W → SpIn W vd D) := fun W k => YD.out W (k8.trans k)
    clear YD
    have YD := ZD
    clear ZD
    clear hO s8 k8 n8 t8 K7 r0 r1
    have r0 := q0
    have r1 := q1
    clear q0 q1
    have hO := good_any vb B w8 (YB.out _ (Kp.refl _))
    rw [(gL_iff B).2 HXB.out.1.1] at hO
    go_wp2_with fail
    refine hO.mono ?_; rintro e w9 ⟨rfl, k9⟩
    have M9 : Hid (Kp w8 w9) := k9
    have q0 := k9.held r0
    have q1 := k9.held r1
    clear hO k9 r0 r1
    have r0 := q0
    have r1 := q1
    clear q0 q1
    have hO := good_any vc C w9 (YC.out _ M9.out)
    rw [(gL_iff C).2 HXC.out.1.1] at hO
    go_wp2_with fail
    refine hO.mono ?_; rintro e w10 ⟨rfl, k10⟩
    have M10 : Hid (Kp w8 w10) := M9.out.trans k10
    have q0 := k10.held r0
    have q1 := k10.held r1
    clear hO k10 r0 r1 M9
    have r0 := q0
    have r1 := q1
    clear q0 q1
    have hO := good_any vd D w10 (YD.out _ M10.out)
    rw [(gL_iff D).2 HXD.out.1.1] at hO
    go_wp2_with fail
    refine hO.mono ?_; rintro e w11 ⟨rfl, k11⟩
    have M11 : Hid (Kp w8 w11) := M10.out.trans k11
    have q0 := k11.held r0
    have q1 := k11.held r1
    clear hO k11 r0 r1 M10
    have r0 := q0
    have r1 := q1
    clear q0 q1
    have hO := good_any vh H w11 (YH.out _ M11.out)
    rw [(gL_iff H).2 HXH.out.1.1] at hO
    go_wp2_with fail
    refine hO.mono ?_; rintro e w12 ⟨rfl, k12⟩
    have M12 : Hid (Kp w8 w12) := M11.out.trans k12
    have q0 := k12.held r0
    have q1 := k12.held r1
    clear hO k12 r0 r1 M11
    have r0 := q0
    have r1 := q1
    clear q0 q1
    have hm6 := mask63 at'
    obtain ⟨m, hm⟩ : ∃ m, at' % 64 = m := ⟨_, rfl⟩
    have hmb : 0 ≤ m ∧ m < 64 := by omega
    obtain ⟨hm0, hm1⟩ := hmb
    rw [hm] at hm6
    clear hm
    have KK : Hid (Kp w2 w12) := K8.out.trans M12.out
    obtain ⟨wv, hwv⟩ : ∃ wv, wv = w12.alloc (.cells #[.int .i64 at', .int .i64 x, .int .i64 (y - 1), .int .i64 y, .int .i64 (x - 1), .int .i64 m] 3) := ⟨_, rfl⟩
    have HWV : Hid _ := hwv
    have hIB : InB wv w12.heap.size [at', x, y - 1, y, x - 1, m] := by rw [hwv]; exact InB.new w12 [at', x, y - 1, y, x - 1, m] 3
    have HIB : Hid (InB wv w12.heap.size [at', x, y - 1, y, x - 1, m]) := hIB
    have KV : Hid (Kp w12 wv) := by rw [hwv]; exact (Kp.refl _).alloc _
    have q0 := KV.out.held r0
    have q1 := KV.out.held r1
    have HBD : Hid (∀ j, j < 6 → -9223372036854775808 ≤ [at', x, y - 1, y, x - 1, m].getD j 0 ∧ [at', x, y - 1, y, x - 1, m].getD j 0 ≤ 9223372036854775807) := fun j hj => by
      have h5 : j = 0 ∨ j = 1 ∨ j = 2 ∨ j = 3 ∨ j = 4 ∨ j = 5 := by omega
      rcases h5 with rfl | rfl | rfl | rfl | rfl | rfl <;> (simp only [List.getD_cons_zero, List.getD_cons_succ]; omega)
    go_wp2
    rw [show w12.alloc _ = wv from hwv.symm]
    have Q0 : Hid (wv.cell? ⟨w1.heap.size, 0, none⟩ = some (.int .i64 x)) := q0
    have Q1 : Hid (wv.cell? ⟨w1.heap.size, 1, none⟩ = some (.int .i64 y)) := q1
    clear hwv HWV hIB r0 r1 q0 q1 hm6
    go_loopw [109] (fun i wr => ∃ k : Nat, k ≤ 6 ∧ i = .int .i64 k ∧ Kp wv wr) (fun i _ => 6 - (intOf i).toNat)
    case atStart => exact ⟨0, by omega, rfl, Kp.refl wv⟩
    case round =>
      obtain ⟨k, hk, rfl, hK⟩ := hrel
      have r0 := hK.held Q0.out
      have r1 := hK.held Q1.out
      by_cases hlt : k < 6
      · have c0 := hK.held (HIB.out k (by simp; omega))
        obtain ⟨b1, b2⟩ := HBD.out k hlt
        obtain ⟨a, ha⟩ : ∃ a, a = [at', x, y - 1, y, x - 1, m].getD k 0 := ⟨_, rfl⟩
        rw [← ha] at c0 b1 b2
        clear ha
        have HHA : Hid (∀ W, Kp wr W → Calls Try.prog 11 #[va, .int .i64 a] W fun e w'' => e = .returned (.bool (hs L a)) ∧ Kp W w'') := fun W k5 => by
          have h5 := has_any va L a ⟨b1, b2⟩ W (HA.out _ (((KK.out.trans KV.out).trans hK).trans k5)) (by omega)
          rwa [(gL_iff L).2 HG.out, Bool.true_and] at h5
        have HHB : Hid (∀ W, Kp wr W → Calls Try.prog 11 #[vb, .int .i64 a] W fun e w'' => e = .returned (.bool (hs L a || inS (x, y) a)) ∧ Kp W w'') := fun W k5 => by
          have h5 := has_any vb B a ⟨b1, b2⟩ W (YB.out _ (((M12.out.trans KV.out).trans hK).trans k5)) (by have := HXB.out.2; omega)
          rwa [(gL_iff B).2 HXB.out.1.1, Bool.true_and, HXB.out.1.2 a] at h5
        have HHC : Hid (∀ W, Kp wr W → Calls Try.prog 11 #[vc, .int .i64 a] W fun e w'' => e = .returned (.bool (hs L a && !inS (x, y) a)) ∧ Kp W w'') := fun W k5 => by
          have h5 := has_any vc C a ⟨b1, b2⟩ W (YC.out _ (((M12.out.trans KV.out).trans hK).trans k5)) (by have := HXC.out.2; omega)
          rwa [(gL_iff C).2 HXC.out.1.1, Bool.true_and, HXC.out.1.2 a] at h5
        have HHD : Hid (∀ W, Kp wr W → Calls Try.prog 11 #[vd, .int .i64 a] W fun e w'' => e = .returned (.bool (hs L a && inS (x, y) a)) ∧ Kp W w'') := fun W k5 => by
          have h5 := has_any vd D a ⟨b1, b2⟩ W (YD.out _ (((M12.out.trans KV.out).trans hK).trans k5)) (by have := HXD.out.2; omega)
          rwa [(gL_iff D).2 HXD.out.1.1, Bool.true_and, HXD.out.1.2 a] at h5
        have HHH : Hid (∀ W, Kp wr W → Calls Try.prog 11 #[vh, .int .i64 a] W fun e w'' => e = .returned (.bool (inS (x, y) a && !hs L a)) ∧ Kp W w'') := fun W k5 => by
          have h5 := has_any vh H a ⟨b1, b2⟩ W (YH.out _ (((M12.out.trans KV.out).trans hK).trans k5)) (by have := HXH.out.2; omega)
          rwa [(gL_iff H).2 HXH.out.1.1, Bool.true_and, HXH.out.1.2 a] at h5
        obtain ⟨P, hP⟩ : ∃ P, P = hs L a := ⟨_, rfl⟩
        rw [← hP] at HHA HHB HHC HHD HHH
        clear hP
        have HIN : Hid (inS (x, y) a = (decide (x ≤ a) && decide (a < y))) := rfl
        obtain ⟨I, hI⟩ : ∃ I, I = inS (x, y) a := ⟨_, rfl⟩
        rw [← hI] at HHB HHC HHD HHH HIN
        clear hI
        go_upto_region 14 with fail
        go_cut [20, 21] (fun v q wx => v = .bool I ∧ q = .bool P ∧ Kp wr wx)
        case first =>
          have p0 := kpw_cell r0
          have p1 := kpw_cell r1
          have hHp : ∀ p, Calls Try.prog 11 #[va, .int .i64 a] (kpw wr p) fun e w'' => e = .returned (.bool P) ∧ Kp (kpw wr p) w'' := fun p => HHA.out _ (kpw_kp wr p)
          by_cases hx : x ≤ a
          · have hx1 : decide (x ≤ a) = true := decide_eq_true hx
            by_cases hy : a < y
            · have HI2 : Hid (I = true) := by rw [HIN.out, hx1, decide_eq_true hy]; rfl
              have hy1 : decide (a < y) = true := decide_eq_true hy
              go_wp2_with fail
              refine wp_region_kp (by kernel_rfl) (by kernel_rfl) ?_
              repeat (first
                | go_big_quiet_skip
                | (go_big_quiet_want; go_big_quiet_op; go_big_quiet_on)
                | (go_big_quiet_want; go_big_quiet_op; apply Exists.intro; refine ⟨fun p => ?_, ?_⟩; (focus
                    first
                    | (go_at_call 11; exact kp_call (hHp _))); go_big_quiet_on))
              refine wpQuiet_nil ?_
              rintro w9' ⟨p, rfl⟩
              go_wp2_with fail
              go_meet
              exact ⟨by rw [HI2.out], rfl, kpw_kp wr p⟩
            · have HI2 : Hid (I = false) := by rw [HIN.out, hx1, decide_eq_false hy]; rfl
              have hy1 : decide (a < y) = false := decide_eq_false hy
              go_wp2_with fail
              refine wp_region_kp (by kernel_rfl) (by kernel_rfl) ?_
              repeat (first
                | go_big_quiet_skip
                | (go_big_quiet_want; go_big_quiet_op; go_big_quiet_on)
                | (go_big_quiet_want; go_big_quiet_op; apply Exists.intro; refine ⟨fun p => ?_, ?_⟩; (focus
                    first
                    | (go_at_call 11; exact kp_call (hHp _))); go_big_quiet_on))
              refine wpQuiet_nil ?_
              rintro w9' ⟨p, rfl⟩
              go_wp2_with fail
              go_meet
              exact ⟨by rw [HI2.out], rfl, kpw_kp wr p⟩
          · have hx1 : decide (x ≤ a) = false := decide_eq_false hx
            have HI2 : Hid (I = false) := by rw [HIN.out, hx1]; rfl
            go_wp2_with fail
            refine wp_region_kp (by kernel_rfl) (by kernel_rfl) ?_
            repeat (first
              | go_big_quiet_skip
              | (go_big_quiet_want; go_big_quiet_op; go_big_quiet_on)
              | (go_big_quiet_want; go_big_quiet_op; apply Exists.intro; refine ⟨fun p => ?_, ?_⟩; (focus
                  first
                  | (go_at_call 11; exact kp_call (hHp _))); go_big_quiet_on))
            refine wpQuiet_nil ?_
            rintro w9' ⟨p, rfl⟩
            go_wp2_with fail
            go_meet
            exact ⟨by rw [HI2.out], rfl, kpw_kp wr p⟩
        obtain ⟨rfl, rfl, kc⟩ := hcut
        obtain ⟨wa, hwa⟩ : ∃ wa, wa = wc := ⟨_, rfl⟩
        rw [← hwa] at kc ⊢
        have KA : Hid (Kp wr wa) := kc
        have KWR : Hid (Kp wv wr) := hK
        clear hwa kc HHA HIN r0 r1 c0 hK
        cases I <;> cases P
        · go_wp2_with fail
          refine (HHB.out _ KA.out).mono ?_; rintro e wb ⟨rfl, kb⟩
          have KB : Hid (Kp wr wb) := KA.out.trans kb
          clear kb KA HHB
          go_wp2_with fail
          refine (HHC.out _ KB.out).mono ?_; rintro e wc' ⟨rfl, kc⟩
          have KC : Hid (Kp wr wc') := KB.out.trans kc
          clear kc KB HHC
          go_wp2_with fail
          refine (HHD.out _ KC.out).mono ?_; rintro e wd ⟨rfl, kd⟩
          have KD : Hid (Kp wr wd) := KC.out.trans kd
          clear kd KC HHD
          go_wp2_with fail
          refine (HHH.out _ KD.out).mono ?_; rintro e we ⟨rfl, ke⟩
          have KE : Kp wv we := (KWR.out.trans KD.out).trans ke
          clear ke KD HHH KWR
          go_wp2
          go_roundw
          case rel => exact ⟨k + 1, by omega, by go_num, KE⟩
          case measure => simp [intOf]; omega
        · go_wp2_with fail
          refine (HHB.out _ KA.out).mono ?_; rintro e wb ⟨rfl, kb⟩
          have KB : Hid (Kp wr wb) := KA.out.trans kb
          clear kb KA HHB
          go_wp2_with fail
          refine (HHC.out _ KB.out).mono ?_; rintro e wc' ⟨rfl, kc⟩
          have KC : Hid (Kp wr wc') := KB.out.trans kc
          clear kc KB HHC
          go_wp2_with fail
          refine (HHD.out _ KC.out).mono ?_; rintro e wd ⟨rfl, kd⟩
          have KD : Hid (Kp wr wd) := KC.out.trans kd
          clear kd KC HHD
          go_wp2_with fail
          refine (HHH.out _ KD.out).mono ?_; rintro e we ⟨rfl, ke⟩
          have KE : Kp wv we := (KWR.out.trans KD.out).trans ke
          clear ke KD HHH KWR
          go_wp2
          go_roundw
          case rel => exact ⟨k + 1, by omega, by go_num, KE⟩
          case measure => simp [intOf]; omega
        · go_wp2_with fail
          refine (HHB.out _ KA.out).mono ?_; rintro e wb ⟨rfl, kb⟩
          have KB : Hid (Kp wr wb) := KA.out.trans kb
          clear kb KA HHB
          go_wp2_with fail
          refine (HHC.out _ KB.out).mono ?_; rintro e wc' ⟨rfl, kc⟩
          have KC : Hid (Kp wr wc') := KB.out.trans kc
          clear kc KB HHC
          go_wp2_with fail
          refine (HHD.out _ KC.out).mono ?_; rintro e wd ⟨rfl, kd⟩
          have KD : Hid (Kp wr wd) := KC.out.trans kd
          clear kd KC HHD
          go_wp2_with fail
          refine (HHH.out _ KD.out).mono ?_; rintro e we ⟨rfl, ke⟩
          have KE : Kp wv we := (KWR.out.trans KD.out).trans ke
          clear ke KD HHH KWR
          go_wp2
          go_roundw
          case rel => exact ⟨k + 1, by omega, by go_num, KE⟩
          case measure => simp [intOf]; omega
        · go_wp2_with fail
          refine (HHB.out _ KA.out).mono ?_; rintro e wb ⟨rfl, kb⟩
          have KB : Hid (Kp wr wb) := KA.out.trans kb
          clear kb KA HHB
          go_wp2_with fail
          refine (HHC.out _ KB.out).mono ?_; rintro e wc' ⟨rfl, kc⟩
          have KC : Hid (Kp wr wc') := KB.out.trans kc
          clear kc KB HHC
          go_wp2_with fail
          refine (HHD.out _ KC.out).mono ?_; rintro e wd ⟨rfl, kd⟩
          have KD : Hid (Kp wr wd) := KC.out.trans kd
          clear kd KC HHD
          go_wp2_with fail
          refine (HHH.out _ KD.out).mono ?_; rintro e we ⟨rfl, ke⟩
          have KE : Kp wv we := (KWR.out.trans KD.out).trans ke
          clear ke KD HHH KWR
          go_wp2
          go_roundw
          case rel => exact ⟨k + 1, by omega, by go_num, KE⟩
          case measure => simp [intOf]; omega
      · obtain ⟨e1, e2, e3⟩ := tots HS.out HG.out HXB.out.1.1 HXC.out.1.1 HXD.out.1.1 HXH.out.1.1 HXB.out.1.2 HXC.out.1.2 HXD.out.1.2 HXH.out.1.2
        simp only at e1 e2 e3
        have tL : ∀ p, Calls Try.prog 18 #[va] (kpw wr p) fun e w'' => e = .returned (.int .i64 (tot L)) ∧ Kp (kpw wr p) w'' := fun p => by
          have h5 := total_any va L (kpw wr p) (HA.out _ (((KK.out.trans KV.out).trans hK).trans (kpw_kp wr p)))
          rwa [totI_of HG.out] at h5
        have bL := tot_b HG.out
        obtain ⟨TL, hTL⟩ : ∃ T, T = tot L := ⟨_, rfl⟩
        rw [← hTL] at tL bL e3
        clear hTL
        obtain ⟨bL0, bL1⟩ := bL
        have tB : ∀ p, Calls Try.prog 18 #[vb] (kpw wr p) fun e w'' => e = .returned (.int .i64 (tot B)) ∧ Kp (kpw wr p) w'' := fun p => by
          have h5 := total_any vb B (kpw wr p) (YB.out _ (((M12.out.trans KV.out).trans hK).trans (kpw_kp wr p)))
          rwa [totI_of HXB.out.1.1] at h5
        have bB := tot_b HXB.out.1.1
        obtain ⟨TB, hTB⟩ : ∃ T, T = tot B := ⟨_, rfl⟩
        rw [← hTB] at tB bB e1
        clear hTB
        obtain ⟨bB0, bB1⟩ := bB
        have tC : ∀ p, Calls Try.prog 18 #[vc] (kpw wr p) fun e w'' => e = .returned (.int .i64 (tot C)) ∧ Kp (kpw wr p) w'' := fun p => by
          have h5 := total_any vc C (kpw wr p) (YC.out _ (((M12.out.trans KV.out).trans hK).trans (kpw_kp wr p)))
          rwa [totI_of HXC.out.1.1] at h5
        have bC := tot_b HXC.out.1.1
        obtain ⟨TC, hTC⟩ : ∃ T, T = tot C := ⟨_, rfl⟩
        rw [← hTC] at tC bC e1 e3
        clear hTC
        obtain ⟨bC0, bC1⟩ := bC
        have tD : ∀ p, Calls Try.prog 18 #[vd] (kpw wr p) fun e w'' => e = .returned (.int .i64 (tot D)) ∧ Kp (kpw wr p) w'' := fun p => by
          have h5 := total_any vd D (kpw wr p) (YD.out _ (((M12.out.trans KV.out).trans hK).trans (kpw_kp wr p)))
          rwa [totI_of HXD.out.1.1] at h5
        have bD := tot_b HXD.out.1.1
        obtain ⟨TD, hTD⟩ : ∃ T, T = tot D := ⟨_, rfl⟩
        rw [← hTD] at tD bD e2 e3
        clear hTD
        obtain ⟨bD0, bD1⟩ := bD
        have tH : ∀ p, Calls Try.prog 18 #[vh] (kpw wr p) fun e w'' => e = .returned (.int .i64 (tot H)) ∧ Kp (kpw wr p) w'' := fun p => by
          have h5 := total_any vh H (kpw wr p) (YH.out _ (((M12.out.trans KV.out).trans hK).trans (kpw_kp wr p)))
          rwa [totI_of HXH.out.1.1] at h5
        have bH := tot_b HXH.out.1.1
        obtain ⟨TH, hTH⟩ : ∃ T, T = tot H := ⟨_, rfl⟩
        rw [← hTH] at tH bH e2
        clear hTH
        obtain ⟨bH0, bH1⟩ := bH
        have tN : ∀ w5, Calls Try.prog 16 #[.agg #[.int .i64 x, .int .i64 y]] w5 fun e w'' => e = .returned (.int .i64 (y - x)) ∧ Kp w5 w'' := fun w5 => by
          have h5 := len1_any (x, y) w5
          rwa [show len1 (x, y) = y - x from if_pos HS.out] at h5
        have p0 := kpw_cell r0
        have p1 := kpw_cell r1
        have f1 : (TB == TC + (y - x)) = true := beq_iff_eq.2 e1
        have f2 : (TD + TH == y - x) = true := beq_iff_eq.2 e2
        have f3 : (TC + TD == TL) = true := beq_iff_eq.2 e3
        have x1 : IntKind.i64.wrap (TC + (y - x)) = TC + (y - x) := by rw [IntKind.wrap_i64]; omega
        have x2 : IntKind.i64.wrap (TD + TH) = TD + TH := by rw [IntKind.wrap_i64]; omega
        have x3 : IntKind.i64.wrap (TC + TD) = TC + TD := by rw [IntKind.wrap_i64]; omega
        have KF : Hid (Kp w wr) := ((K2.out.trans KK.out).trans KV.out).trans hK
        clear e1 e2 e3 hK r0 r1
        go_wp2_with fail
        refine wp_region_kp (by kernel_rfl) (by kernel_rfl) ?_
        repeat (first
          | go_big_quiet_skip
          | (go_big_quiet_want; go_big_quiet_op; go_big_quiet_on)
          | (go_big_quiet_want; go_big_quiet_op; apply Exists.intro; refine ⟨fun p => ?_, ?_⟩; (focus
              first
              | (go_at_call 16; exact kp_call (tN _))
              | (go_at_call_of 18 va; exact kp_call (tL _))
              | (go_at_call_of 18 vb; exact kp_call (tB _))
              | (go_at_call_of 18 vc; exact kp_call (tC _))
              | (go_at_call_of 18 vd; exact kp_call (tD _))
              | (go_at_call_of 18 vh; exact kp_call (tH _))); go_big_quiet_on))
        refine wpQuiet_nil ?_
        rintro w9' ⟨p, rfl⟩
        go_wp2
        go_ret
        exact ⟨rfl, KF.out.trans (kpw_kp wr p)⟩
theorem walk (w : World) (a0 : Value) (l0 : List (Int × Int)) (a1 b1 : Int) (a2 : Int) (w0 : SpIn w a0 l0) (w1 : (Lit.int .i64 a1).wf = true) (x1 : (Lit.int .i64 b1).wf = true) (w2 : (Lit.int .i64 a2).wf = true) :
    Calls Try.prog 7 #[a0, .agg #[.int .i64 a1, .int .i64 b1], .int .i64 a2] w fun e w' => e = .returned (.bool true) ∧ Kp w w' := by
  have h3 := bounds_i64 w2
  exact walkN w a0 l0 a1 b1 a2 w0 (by omega) (by omega)

set_option maxRecDepth 100000 in
theorem lifted (os : Os) (started : os.Started) (H : Type) (enc : TypeId × Value → H) :
    ReturnsInHanded {} Try.checked os 7 .any (Rows.spansPlacesSpec.pre6 enc Try.prog Try.f7 Rows.spansPlacesRow.domain false) (Rows.spansPlacesSpec.post enc Try.prog Try.f7 false true false false) := by
  refine returnsInHanded_of_change (C := Try.checked) own started (by kernel_rfl) Try.func7
    (ChangeSpec.witness6 (enc := enc) (C := Try.checked) false ⟨#[], #[.slice none 0 0, .agg #[.int .i64 0, .int .i64 0], .int .i64 0], []⟩ 8 (by kernel_rfl) (by kernel_rfl) (by kernel_rfl) (by kernel_rfl)) ?_
  intro W base args ds gs before hval0 hW hcnd _
  have hval : ∀ (j : Nat) t v, Try.f7.params[j]? = some t → args[j]? = some v → Value.okWide Try.prog W .any base t v := hval0
  have hW' := hW
  have hlt := hW.lt
  obtain ⟨p, q, hA0, hV, rfl, hfz, hnd⟩ := hW
  have hA : DataW.TrodAll enc Try.prog W 0 (fun _ => true) true Try.f7.params.toList args.toList ds p := hA0
  have hAk := hA
  rw [Try.params7] at hA hval
  obtain ⟨v0, vs0, d0, ds0, p0, q0, hargs, rfl, rfl, h0, r0⟩ := trodAll_cons hA
  obtain ⟨v1, vs1, d1, ds1, p1, q1, rfl, rfl, rfl, h1, r1⟩ := trodAll_cons r0
  obtain ⟨v2, vs2, d2, ds2, p2, q2, rfl, rfl, rfl, h2, r2⟩ := trodAll_cons r1
  obtain ⟨rfl, rfl, rfl⟩ := trodAll_nil r2
  obtain rfl : args = #[v0, v1, v2] := by cases args; simp_all
  obtain ⟨rfl, rfl⟩ := trodVars_none hV
  obtain ⟨l0, w0⟩ := open_spans Try.underlying24 Try.underlying23 cellsSp rfl rfl cellsI cellsI Try.underlying3 Try.underlying3 (hval 0 24 v0 rfl rfl) h0
  obtain ⟨a1, b1, rfl, w1, x1⟩ := open_span Try.underlying23 cellsSp rfl rfl cellsI cellsI Try.underlying3 Try.underlying3 (hval 1 23 v1 rfl rfl) h1
  obtain ⟨a2, rfl, rfl, rfl, w2⟩ := open_int Try.underlying3 (hval 2 3 v2 rfl rfl) h2
  clear hA0 hval0
  simp only [List.append_nil] at hW' hAk hlt
  refine (walk W v0 l0 a1 b1 a2 w0 w1 x1 w2).mono fun e W' ⟨he, hg⟩ => ?_
  subst he
  exact ⟨_, rfl, post_kp (pv := []) hW' (fun _ _ _ => (trodAll_cons_mk (shut_bool Try.underlying4 _) trodAll_mk0)) (fun sp hsp => trodAll_stays laidOut (by rw [Try.params7]; exact of_decide_eq_true (by kernel_rfl)) hAk (fun x hx => Below.same hg (hlt x hx)) hsp) (fun _ _ => rfl) (by simp) hg⟩

theorem over : Rows.spansPlacesRow.holds Try.pinned (OpenSpec.ofChange Rows.spansPlacesSpec) :=
  OpenClaim.holds_of_wide 7 Try.f7 rfl rfl rfl rfl rfl rfl rfl ⟨rfl, rfl, rfl, rfl, rfl⟩ rfl rfl rfl rfl rfl (by kernel_rfl) Try.func7 (by kernel_rfl)
    (of_decide_eq_true (by kernel_rfl)) (by unfold Func.isWrapper; first | (rw [if_pos (by decide +kernel)]; kernel_rfl) | (rw [if_neg (by decide +kernel)]; exact ⟨rfl, rfl⟩))
    (fun os started H enc _ => lifted os started H enc)

end Go.Proofs.Ytmkmejdbhikomaa.spansPlaces
namespace Go.Proofs.Ytmkmejdbhikomaa
theorem spansPlaces_holds : Rows.SpansPlacesSaid := spansPlaces.over
end Go.Proofs.Ytmkmejdbhikomaa
