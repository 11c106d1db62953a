/-
  For every span, every list of spans and every number the law function SpansGood returns true (Go: trunnionlaw08.SpansGood). No condition.
-/
import Derived.Test.YtmkmejdbhikomaaRows
import Derived.Test.YtmkmejdbhikomaaBufArgs
import Derived.Test.YtmkmejdbhikomaaSpMask
import Derived.WalkKit
import Derived.ProofKit
import Derived.OpenShut
import Derived.ShutString
import Derived.Deep.QuietTactic
import Derived.BigQuiet
import Derived.Deep.RegionWith
import Derived.Deep.DeepCutAuto
import Derived.Deep.CutBlock
namespace Go.Proofs.Ytmkmejdbhikomaa.spansGood
open Go.ChangeShapes Go.WideShapes Go.ChangeAt Go.RowKit
open Go.ChangeMaps (open_string shut_string)
open Go.Proofs.Ytmkmejdbhikomaa Plain
set_option linter.unusedVariables false

theorem own : ownKnob Try.prog.godebug = none := by kernel_rfl
theorem laidOut : laidOutB Try.prog = true := by kernel_rfl
theorem cellsI : Try.prog.cellsOf 3 = 1 := by kernel_rfl
theorem cellsSp : Try.prog.cellsOf 23 = 2 := by kernel_rfl
set_option maxRecDepth 100000 in
set_option maxHeartbeats 4000000 in
theorem walkN (w : World) (x y at' : Int) (v1 : Value) (l1 : List (Int × Int)) (h1 : SpIn w v1 l1) (ha1 : -9223372036854775808 ≤ at') (ha2 : at' ≤ 9223372036854775807) :
    Calls Try.prog 3 #[.agg #[.int .i64 x, .int .i64 y], v1, .int .i64 at'] w fun e w' => e = .returned (.bool true) ∧ Kp w w' := by
  obtain ⟨w0, hw0⟩ : ∃ w0, w0 = w.alloc (.cells #[.int .i64 x, .int .i64 y] 23) := ⟨_, rfl⟩
  have HW : Hid (w0 = w.alloc (.cells #[.int .i64 x, .int .i64 y] 23)) := hw0
  have k0 : Kp w w0 := by rw [hw0]; exact (Kp.refl w).alloc _
  have c0 : w0.cell? ⟨w.heap.size, 0, none⟩ = some (.int .i64 x) := by rw [hw0]; simp
  have c1 : w0.cell? ⟨w.heap.size, 1, none⟩ = some (.int .i64 y) := by rw [hw0]; simp
  have hA := lists_any v1 l1 false w0 (h1.kept k0)
  have HB : Hid (∀ w', Kp w0 w' → Calls Try.prog 9 #[v1, .bool true] w' fun e w'' => ∃ va vb L, e = .returned (.tuple #[va, vb]) ∧ LsR w' w'' va vb L ∧ (true = true → G L)) := fun w' k => lists_any v1 l1 true w' (h1.kept (k0.trans k))
  clear h1 hw0
  go_enter Try.func3, Try.ntmps3
  go_wp2_with fail
  rw [show w.alloc (.cells #[.int .i64 x, .int .i64 y] 23) = w0 from HW.out.symm]
  clear HW
  refine hA.mono ?_; rintro e w1 ⟨va, vb, L, rfl, hL, _⟩
  have HL : Hid (LsR w0 w1 va vb L) := hL
  have q0 := hL.k.held c0
  have q1 := hL.k.held c1
  have K1 : Hid (Kp w w1) := k0.trans hL.k
  clear hA hL c0 c1 k0
  go_wp2_with fail
  refine (HB.out w1 HL.out.k).mono ?_; rintro e w2 ⟨vc, vd, M, rfl, hM, hG⟩
  have HG : Hid (G M) := hG (by trivial)
  have HMM : Hid (LsR w1 w2 vc vd M) := hM
  have r0 := hM.k.held q0
  have r1 := hM.k.held q1
  have K2 : Hid (Kp w w2) := K1.out.trans hM.k
  have hb0 : w.heap.size < w2.heap.size := World.block_lt_of_cell? _ _ r0
  have hLl := HL.out.len
  have hMl := hM.len
  clear HB hM hG q0 q1 K1
  go_wp2_with fail
  go_cut [11, 12] (fun p q wx => ∃ b1 b2, p = .pointer (some ⟨b1, 0, none⟩) ∧ q = .pointer (some ⟨b2, 0, none⟩) ∧ (wx.cell? ⟨b1, 0, none⟩ = some (.int .i64 x) ∧ wx.cell? ⟨b1, 1, none⟩ = some (.int .i64 y) ∧ wx.cell? ⟨b2, 0, none⟩ = some (.int .i64 x) ∧ wx.cell? ⟨b2, 1, none⟩ = some (.int .i64 y)) ∧ Kp w2 wx)
  case first =>
    go_region
    all_goals (go_wp2_with fail; go_meet)
    · obtain ⟨⟨⟨t1, t2⟩, t3, t4⟩, t5⟩ := two_boxes w2 (.int .i64 x) (.int .i64 y) (.int .i64 x) (.int .i64 y) 30 31
      exact ⟨_, _, rfl, rfl, ⟨t1, t2, t3, t4⟩, t5⟩
    · obtain ⟨⟨⟨t1, t2⟩, t3, t4⟩, t5⟩ := two_boxes w2 (.int .i64 x) (.int .i64 y) (.int .i64 x) (.int .i64 y) 31 30
      exact ⟨_, _, rfl, rfl, ⟨t3, t4, t1, t2⟩, t5⟩
  obtain ⟨b1, b2, rfl, rfl, ⟨q0, q1, q2, q3⟩, k3⟩ := hcut
  obtain ⟨w3, hw3⟩ : ∃ w3, w3 = wc := ⟨_, rfl⟩
  rw [← hw3] at q0 q1 q2 q3 k3 ⊢
  have HVA : Hid (∀ W, Kp w3 W → SpIn W va L) := fun W k => (HL.out.a.kept (HMM.out.k.trans k3)).kept k
  have HVB : Hid (∀ W, Kp w3 W → SpIn W vb L) := fun W k => (HL.out.b.kept (HMM.out.k.trans k3)).kept k
  have HVC : Hid (∀ W, Kp w3 W → SpIn W vc M) := fun W k => (HMM.out.a.kept k3).kept k
  have HVD : Hid (∀ W, Kp w3 W → SpIn W vd M) := fun W k => (HMM.out.b.kept k3).kept k
  have K3 : Hid (Kp w w3) := K2.out.trans k3
  clear hw3 k3 r0 r1 K2 HL HMM
  have hO := one_any (x, y) w3
  unfold spV at hO
  simp only at hO
  go_wp2_with fail
  refine hO.mono ?_; rintro e w4 ⟨rfl, k4⟩
  have r0 := k4.held q0
  have r1 := k4.held q1
  have r2 := k4.held q2
  have r3 := k4.held q3
  have K4 : Hid (Kp w3 w4) := k4
  have HGD : Hid (gd (x, y) = true → (0 ≤ x ∧ x < y ∧ y ≤ 1099511627776)) := fun h => (gd_iff _).1 h
  have HN1 : Hid (gd (x, y) = true → len1 (x, y) = y - x) := fun h => if_pos h
  have HN0 : Hid (gd (x, y) = false → len1 (x, y) = 0) := fun h => if_neg (by simp [h])
  have HLN : Hid (∀ w5, Calls Try.prog 16 #[.agg #[.int .i64 x, .int .i64 y]] w5 fun e w'' => e = .returned (.int .i64 (len1 (x, y))) ∧ Kp w5 w'') := fun w5 => len1_any (x, y) w5
  have HG1 : Hid (∀ w5, Calls Try.prog 15 #[.agg #[.int .i64 x, .int .i64 y]] w5 fun e w'' => e = .returned (.bool (gd (x, y))) ∧ Kp w5 w'') := fun w5 => good1_any (x, y) w5
  have HO1 : Hid (∀ w5, Calls Try.prog 10 #[.agg #[.int .i64 x, .int .i64 y]] w5 fun e w'' => e = .returned (.bool (gd (x, y))) ∧ Kp w5 w'') := fun w5 => one_any (x, y) w5
  obtain ⟨gg, hgg⟩ : ∃ gg, gg = gd (x, y) := ⟨_, rfl⟩
  obtain ⟨N, hN⟩ : ∃ N, N = len1 (x, y) := ⟨_, rfl⟩
  rw [← hgg] at HGD HN1 HN0 HG1 HO1 ⊢
  rw [← hN] at HN1 HN0 HLN
  clear hO k4 q0 q1 q2 q3 hgg hN
  go_upto_if 29 with fail
  go_cut [13] (fun v wx => v = .int .i64 N ∧ wx = w4)
  case first =>
    cases gg with
    | false =>
      have e1 := HN0.out rfl
      go_wp2_with fail
      go_meet
      exact ⟨by rw [e1], rfl⟩
    | true =>
      obtain ⟨g1, g2, g3⟩ := HGD.out rfl
      have HE : Hid (N = y - x) := HN1.out rfl
      go_wp2_with fail
      go_meet
      exact ⟨by rw [HE.out], rfl⟩
  obtain ⟨rfl, hwc⟩ := hcut
  rw [hwc]
  clear hwc HGD HN1 HN0
  have hm6 := mask63 at'
  obtain ⟨m, hm⟩ : ∃ m, at' % 64 = m := ⟨_, rfl⟩
  have hmb : 0 ≤ m ∧ m < 64 := by omega
  obtain ⟨hm0, hm1⟩ := hmb
  rw [hm] at hm6
  clear hm
  obtain ⟨wv, hwv⟩ : ∃ wv, wv = w4.alloc (.cells #[.int .i64 at', .int .i64 m] 3) := ⟨_, rfl⟩
  have hIB : InB wv w4.heap.size [at', m] := by rw [hwv]; exact InB.new w4 [at', m] 3
  have HIB : Hid (InB wv w4.heap.size [at', m]) := hIB
  have KV : Hid (Kp w3 wv) := by rw [hwv]; exact K4.out.alloc _
  have KV4 : Hid (Kp w4 wv) := by rw [hwv]; exact (Kp.refl _).alloc _
  have Q0 : Hid (wv.cell? ⟨b1, 0, none⟩ = some (.int .i64 x)) := KV4.out.held r0
  have Q1 : Hid (wv.cell? ⟨b1, 1, none⟩ = some (.int .i64 y)) := KV4.out.held r1
  have Q2 : Hid (wv.cell? ⟨b2, 0, none⟩ = some (.int .i64 x)) := KV4.out.held r2
  have Q3 : Hid (wv.cell? ⟨b2, 1, none⟩ = some (.int .i64 y)) := KV4.out.held r3
  have HBD : Hid (∀ j, j < 2 → -9223372036854775808 ≤ [at', m].getD j 0 ∧ [at', m].getD j 0 ≤ 9223372036854775807) := fun j hj => by
    have h5 : j = 0 ∨ j = 1 := by omega
    rcases h5 with rfl | rfl <;> (simp only [List.getD_cons_zero, List.getD_cons_succ]; omega)
  go_wp2
  rw [show w4.alloc _ = wv from hwv.symm]
  clear hwv hIB r0 r1 r2 r3 hm6 KV4 K4
  go_loopw [40] (fun i wr => ∃ k : Nat, k ≤ 2 ∧ i = .int .i64 k ∧ Kp wv wr) (fun i _ => 2 - (intOf i).toNat)
  case atStart => exact ⟨0, by omega, rfl, Kp.refl wv⟩
  case round =>
    obtain ⟨k, hk, rfl, hK⟩ := hrel
    by_cases hlt : k < 2
    · have c0 := hK.held (HIB.out k (by simp; omega))
      obtain ⟨n1, n2⟩ := HBD.out k hlt
      obtain ⟨a, ha⟩ : ∃ a, a = [at', m].getD k 0 := ⟨_, rfl⟩
      rw [← ha] at c0 n1 n2
      clear ha
      have hH1 := has_any va L a ⟨n1, n2⟩ wr (HVA.out _ (KV.out.trans hK)) (by omega)
      have HH2 : Hid (∀ W, Kp wr W → Calls Try.prog 12 #[vb] W fun e w'' => e = .returned (.bool (gL L)) ∧ Kp W w'') := fun W k5 => rgood_any vb L W (HVB.out _ ((KV.out.trans hK).trans k5))
      have HH3 : Hid (∀ W, Kp wr W → Calls Try.prog 13 #[vb, .int .i64 a] W fun e w'' => e = .returned (.bool (hs L a)) ∧ Kp W w'') := fun W k5 => rhas_any vb L a W (HVB.out _ ((KV.out.trans hK).trans k5))
      have HH4 : Hid (∀ W, Kp wr W → Calls Try.prog 11 #[vc, .int .i64 a] W fun e w'' => e = .returned (.bool (hs M a)) ∧ Kp W w'') := fun W k5 => by
        have h5 := has_any vc M a ⟨n1, n2⟩ W (HVC.out _ ((KV.out.trans hK).trans k5)) (by omega)
        rwa [(gL_iff M).2 HG.out, Bool.true_and] at h5
      have HH5 : Hid (∀ W, Kp wr W → Calls Try.prog 13 #[vd, .int .i64 a] W fun e w'' => e = .returned (.bool (hs M a)) ∧ Kp W w'') := fun W k5 => rhas_any vd M a W (HVD.out _ ((KV.out.trans hK).trans k5))
      obtain ⟨P, hP⟩ : ∃ P, P = hs L a := ⟨_, rfl⟩
      obtain ⟨R, hR⟩ : ∃ R, R = hs M a := ⟨_, rfl⟩
      rw [← hP] at hH1 HH3
      rw [← hR] at HH4 HH5
      obtain ⟨gl, hgl⟩ : ∃ gl, gl = gL L := ⟨_, rfl⟩
      rw [← hgl] at hH1 HH2
      clear hP hR hgl
      have HK : Hid (Kp wv wr) := hK
      clear hK
      cases gl with
      | false =>
        rw [Bool.false_and] at hH1
        go_wp2_with fail
        refine hH1.mono ?_; rintro e wa ⟨rfl, ka⟩
        have KA : Hid (Kp wr wa) := ka
        clear hH1 ka c0
        go_wp2_with fail
        refine (HH2.out _ KA.out).mono ?_; rintro e wb ⟨rfl, kb⟩
        have KB : Hid (Kp wr wb) := KA.out.trans kb
        clear HH2 kb KA HH3
        go_wp2_with fail
        refine (HH4.out _ KB.out).mono ?_; rintro e wd ⟨rfl, kd⟩
        have KD : Hid (Kp wr wd) := KB.out.trans kd
        clear HH4 kd KB
        go_wp2_with fail
        refine (HH5.out _ KD.out).mono ?_; rintro e we ⟨rfl, ke⟩
        have KE : Kp wv we := (HK.out.trans KD.out).trans ke
        clear HH5 ke KD HK
        go_wp2
        go_roundw
        case rel => exact ⟨k + 1, by omega, by go_num, KE⟩
        case measure => simp [intOf]; omega
      | true =>
        rw [Bool.true_and] at hH1
        go_wp2_with fail
        refine hH1.mono ?_; rintro e wa ⟨rfl, ka⟩
        have KA : Hid (Kp wr wa) := ka
        clear hH1 ka c0
        go_wp2_with fail
        refine (HH2.out _ KA.out).mono ?_; rintro e wb' ⟨rfl, kb'⟩
        have KB' : Hid (Kp wr wb') := KA.out.trans kb'
        clear HH2 kb' KA
        go_wp2_with fail
        refine (HH3.out _ KB'.out).mono ?_; rintro e wb ⟨rfl, kb⟩
        have KB : Hid (Kp wr wb) := KB'.out.trans kb
        clear HH3 kb KB'
        go_wp2_with fail
        refine (HH4.out _ KB.out).mono ?_; rintro e wd ⟨rfl, kd⟩
        have KD : Hid (Kp wr wd) := KB.out.trans kd
        clear HH4 kd KB
        go_wp2_with fail
        refine (HH5.out _ KD.out).mono ?_; rintro e we ⟨rfl, ke⟩
        have KE : Kp wv we := (HK.out.trans KD.out).trans ke
        clear HH5 ke KD HK
        go_wp2
        go_roundw
        case rel => exact ⟨k + 1, by omega, by go_num, KE⟩
        case measure => simp [intOf]; omega
    · have p0 := kpw_cell (hK.held Q0.out)
      have p1 := kpw_cell (hK.held Q1.out)
      have p2 := kpw_cell (hK.held Q2.out)
      have p3 := kpw_cell (hK.held Q3.out)
      have t1 : ∀ p, Calls Try.prog 17 #[va] (kpw wr p) fun e w'' => e = .returned (.bool (gL L)) ∧ Kp (kpw wr p) w'' := fun p => good_any va L _ (HVA.out _ ((KV.out.trans hK).trans (kpw_kp wr p)))
      have t2 : ∀ p, Calls Try.prog 12 #[vb] (kpw wr p) fun e w'' => e = .returned (.bool (gL L)) ∧ Kp (kpw wr p) w'' := fun p => rgood_any vb L _ (HVB.out _ ((KV.out.trans hK).trans (kpw_kp wr p)))
      have t3 : ∀ p, Calls Try.prog 18 #[va] (kpw wr p) fun e w'' => e = .returned (.int .i64 (totI L)) ∧ Kp (kpw wr p) w'' := fun p => total_any va L _ (HVA.out _ ((KV.out.trans hK).trans (kpw_kp wr p)))
      have t4 : ∀ p, Calls Try.prog 19 #[vb] (kpw wr p) fun e w'' => e = .returned (.int .i64 (totI L)) ∧ Kp (kpw wr p) w'' := fun p => rtotal_any vb L _ (HVB.out _ ((KV.out.trans hK).trans (kpw_kp wr p)))
      have t5 : ∀ p, Calls Try.prog 18 #[vc] (kpw wr p) fun e w'' => e = .returned (.int .i64 (totI M)) ∧ Kp (kpw wr p) w'' := fun p => total_any vc M _ (HVC.out _ ((KV.out.trans hK).trans (kpw_kp wr p)))
      have t6 : ∀ p, Calls Try.prog 19 #[vd] (kpw wr p) fun e w'' => e = .returned (.int .i64 (totI M)) ∧ Kp (kpw wr p) w'' := fun p => rtotal_any vd M _ (HVD.out _ ((KV.out.trans hK).trans (kpw_kp wr p)))
      obtain ⟨gl, hgl⟩ : ∃ gl, gl = gL L := ⟨_, rfl⟩
      obtain ⟨TL, hTL⟩ : ∃ T, T = totI L := ⟨_, rfl⟩
      obtain ⟨TM, hTM⟩ : ∃ T, T = totI M := ⟨_, rfl⟩
      rw [← hgl] at t1 t2
      rw [← hTL] at t3 t4
      rw [← hTM] at t5 t6
      have f1 : (gg == gg) = true := beq_self_eq_true gg
      have f2 : (N == N) = true := beq_self_eq_true N
      have f3 : (gl == gl) = true := beq_self_eq_true gl
      have f4 : (TL == TL) = true := beq_self_eq_true TL
      have f5 : (TM == TM) = true := beq_self_eq_true TM
      have s1 := HG1.out
      have s2 := HO1.out
      have s3 := HLN.out
      have KF : Hid (Kp w wr) := (K3.out.trans KV.out).trans hK
      clear hgl hTL hTM hK HG1 HO1 HLN
      go_wp2_with fail
      refine wp_region_kp (by kernel_rfl) (by kernel_rfl) ?_
      repeat (first
        | go_big_quiet_skip
        | (go_big_quiet_want; go_big_quiet_op; go_big_quiet_on)
        | (go_big_quiet_want; go_big_quiet_op; apply Exists.intro; refine ⟨fun p => ?_, ?_⟩; (focus
            first
            | (go_at_call 14; exact kp_call (wakes_any _))
            | (go_at_call 15; exact kp_call (s1 _))
            | (go_at_call 10; exact kp_call (s2 _))
            | (go_at_call 16; exact kp_call (s3 _))
            | (go_at_call 17; exact kp_call (t1 _))
            | (go_at_call 12; exact kp_call (t2 _))
            | (go_at_call_of 18 va; exact kp_call (t3 _))
            | (go_at_call_of 19 vb; exact kp_call (t4 _))
            | (go_at_call_of 18 vc; exact kp_call (t5 _))
            | (go_at_call_of 19 vd; exact kp_call (t6 _))); go_big_quiet_on))
      refine wpQuiet_nil ?_
      rintro w9' ⟨p, rfl⟩
      go_wp2
      go_ret
      exact ⟨rfl, KF.out.trans (kpw_kp wr p)⟩
theorem walk (w : World) (a0 b0 : Int) (a1 : Value) (l1 : List (Int × Int)) (a2 : Int) (w0 : (Lit.int .i64 a0).wf = true) (x0 : (Lit.int .i64 b0).wf = true) (w1 : SpIn w a1 l1) (w2 : (Lit.int .i64 a2).wf = true) :
    Calls Try.prog 3 #[.agg #[.int .i64 a0, .int .i64 b0], a1, .int .i64 a2] w fun e w' => e = .returned (.bool true) ∧ Kp w w' := by
  have h3 := bounds_i64 w2
  exact walkN w a0 b0 a2 a1 l1 w1 (by omega) (by omega)

set_option maxRecDepth 100000 in
theorem lifted (os : Os) (started : os.Started) (H : Type) (enc : TypeId × Value → H) :
    ReturnsInHanded {} Try.checked os 3 .any (Rows.spansGoodSpec.pre6 enc Try.prog Try.f3 Rows.spansGoodRow.domain false) (Rows.spansGoodSpec.post enc Try.prog Try.f3 false true false false) := by
  refine returnsInHanded_of_change (C := Try.checked) own started (by kernel_rfl) Try.func3
    (ChangeSpec.witness6 (enc := enc) (C := Try.checked) false ⟨#[], #[.agg #[.int .i64 0, .int .i64 0], .slice none 0 0, .int .i64 0], []⟩ 8 (by kernel_rfl) (by kernel_rfl) (by kernel_rfl) (by kernel_rfl)) ?_
  intro W base args ds gs before hval0 hW hcnd _
  have hval : ∀ (j : Nat) t v, Try.f3.params[j]? = some t → args[j]? = some v → Value.okWide Try.prog W .any base t v := hval0
  have hW' := hW
  have hlt := hW.lt
  obtain ⟨p, q, hA0, hV, rfl, hfz, hnd⟩ := hW
  have hA : DataW.TrodAll enc Try.prog W 0 (fun _ => true) true Try.f3.params.toList args.toList ds p := hA0
  have hAk := hA
  rw [Try.params3] at hA hval
  obtain ⟨v0, vs0, d0, ds0, p0, q0, hargs, rfl, rfl, h0, r0⟩ := trodAll_cons hA
  obtain ⟨v1, vs1, d1, ds1, p1, q1, rfl, rfl, rfl, h1, r1⟩ := trodAll_cons r0
  obtain ⟨v2, vs2, d2, ds2, p2, q2, rfl, rfl, rfl, h2, r2⟩ := trodAll_cons r1
  obtain ⟨rfl, rfl, rfl⟩ := trodAll_nil r2
  obtain rfl : args = #[v0, v1, v2] := by cases args; simp_all
  obtain ⟨rfl, rfl⟩ := trodVars_none hV
  obtain ⟨a0, b0, rfl, w0, x0⟩ := open_span Try.underlying23 cellsSp rfl rfl cellsI cellsI Try.underlying3 Try.underlying3 (hval 0 23 v0 rfl rfl) h0
  obtain ⟨l1, w1⟩ := open_spans Try.underlying24 Try.underlying23 cellsSp rfl rfl cellsI cellsI Try.underlying3 Try.underlying3 (hval 1 24 v1 rfl rfl) h1
  obtain ⟨a2, rfl, rfl, rfl, w2⟩ := open_int Try.underlying3 (hval 2 3 v2 rfl rfl) h2
  clear hA0 hval0
  simp only [List.append_nil] at hW' hAk hlt
  refine (walk W a0 b0 v1 l1 a2 w0 x0 w1 w2).mono fun e W' ⟨he, hg⟩ => ?_
  subst he
  exact ⟨_, rfl, post_kp (pv := []) hW' (fun _ _ _ => (trodAll_cons_mk (shut_bool Try.underlying4 _) trodAll_mk0)) (fun sp hsp => trodAll_stays laidOut (by rw [Try.params3]; exact of_decide_eq_true (by kernel_rfl)) hAk (fun x hx => Below.same hg (hlt x hx)) hsp) (fun _ _ => rfl) (by simp) hg⟩

theorem over : Rows.spansGoodRow.holds Try.pinned (OpenSpec.ofChange Rows.spansGoodSpec) :=
  OpenClaim.holds_of_wide 3 Try.f3 rfl rfl rfl rfl rfl rfl rfl ⟨rfl, rfl, rfl, rfl, rfl⟩ rfl rfl rfl rfl rfl (by kernel_rfl) Try.func3 (by kernel_rfl)
    (of_decide_eq_true (by kernel_rfl)) (by unfold Func.isWrapper; first | (rw [if_pos (by decide +kernel)]; kernel_rfl) | (rw [if_neg (by decide +kernel)]; exact ⟨rfl, rfl⟩))
    (fun os started H enc _ => lifted os started H enc)

end Go.Proofs.Ytmkmejdbhikomaa.spansGood
namespace Go.Proofs.Ytmkmejdbhikomaa
theorem spansGood_holds : Rows.SpansGoodSaid := spansGood.over
end Go.Proofs.Ytmkmejdbhikomaa
