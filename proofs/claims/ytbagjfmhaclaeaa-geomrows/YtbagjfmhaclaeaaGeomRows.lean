/-
  For every geometry and place the law function GeomRows returns true (Go: trunnionlaw09.GeomRows). No condition.
-/
import Derived.Test.YtbagjfmhaclaeaaRows
import Derived.Test.YtbagjfmhaclaeaaBufArgs
import Derived.Test.YtbagjfmhaclaeaaGmArgs
import Derived.WalkKit
import Derived.ProofKit
import Derived.OpenShut
import Derived.ShutString
import Derived.Deep.QuietTactic
import Derived.BigQuiet
import Derived.Deep.RegionWith
import Derived.Deep.RegionHeld3
import Derived.Deep.DeepCutAuto
import Derived.Deep.CutBlock
namespace Go.Proofs.Ytbagjfmhaclaeaa.geomRows
open Go.ChangeShapes Go.WideShapes Go.ChangeAt Go.RowKit
open Go.ChangeMaps (open_string shut_string)
open Go.Proofs.Ytbagjfmhaclaeaa Plain
set_option linter.unusedVariables false

theorem own : ownKnob Try.prog.godebug = none := by kernel_rfl
theorem laidOut : laidOutB Try.prog = true := by kernel_rfl
theorem cellsI : Try.prog.cellsOf 3 = 1 := by kernel_rfl
theorem cellsR : Try.prog.cellsOf 23 = 2 := by kernel_rfl
theorem cellsJ : Try.prog.cellsOf 31 = 2 := by kernel_rfl
theorem sec_row (n s t : Int) : (sec n s t).2 = (row n s t).2 ∧ ((row n s t).2 = 0 → (sec n s t).1 = 100 + t ∧ 0 ≤ t ∧ t < 64) ∧ ((row n s t).2 ≠ 0 → (sec n s t).1 = 0) := by
  unfold sec row
  by_cases h1 : gg n s = true
  · rw [if_pos h1, if_pos h1]
    obtain ⟨g1, g2, g3, g4⟩ := (gg_iff n s).1 h1
    by_cases h2 : 0 ≤ t ∧ t < s
    · rw [if_pos h2, if_pos h2]
      exact ⟨rfl, fun _ => ⟨rfl, by omega, by omega⟩, fun h => absurd rfl h⟩
    · rw [if_neg h2, if_neg h2]
      exact ⟨rfl, fun h => absurd h (by show ¬ (3 : Int) = 0; omega), fun _ => rfl⟩
  · rw [if_neg h1, if_neg h1]
    exact ⟨rfl, fun h => absurd h (by show ¬ (4 : Int) = 0; omega), fun _ => rfl⟩
set_option maxRecDepth 100000 in
set_option maxHeartbeats 4000000 in
theorem walkN (w : World) (n s y z : Int) :
    Calls Try.prog 5 #[.agg #[.int .i64 n, .int .i64 s], .agg #[.int .i64 y, .int .i64 z]] w fun e w' => e = .returned (.bool true) ∧ Kp w w' := by
  have hM := made_any n s
  unfold gV at hM
  obtain ⟨N, eN⟩ : ∃ N, N = gN n := ⟨_, rfl⟩
  obtain ⟨S, eS⟩ : ∃ S, S = gS s := ⟨_, rfl⟩
  rw [← eN, ← eS] at hM
  have HM : Hid (∀ w', Calls Try.prog 16 #[.agg #[.int .i64 n, .int .i64 s]] w' fun e w'' => e = .returned (.agg #[.int .i64 N, .int .i64 S]) ∧ Kp w' w'') := hM
  clear hM eN eS
  obtain ⟨w0, hw0⟩ : ∃ w0, w0 = ((w.alloc (.cells #[.int .i64 n, .int .i64 s] 23)).alloc (.cells #[.int .i64 y, .int .i64 z] 31)) := ⟨_, rfl⟩
  have HW : Hid (w0 = ((w.alloc (.cells #[.int .i64 n, .int .i64 s] 23)).alloc (.cells #[.int .i64 y, .int .i64 z] 31))) := hw0
  have k0 : Kp w w0 := by rw [hw0]; exact ((Kp.refl w).alloc _).alloc _
  have r0 : w0.cell? ⟨w.heap.size, 0, none⟩ = some (.int .i64 n) := by rw [hw0]; exact ((Kp.refl _).alloc _).held (by simp)
  have r1 : w0.cell? ⟨w.heap.size, 1, none⟩ = some (.int .i64 s) := by rw [hw0]; exact ((Kp.refl _).alloc _).held (by simp)
  have r2 : w0.cell? ⟨w.heap.size + 1, 0, none⟩ = some (.int .i64 y) := by rw [hw0, World.cell?_alloc_at _ _ _ _ (by simp)]; rfl
  have r3 : w0.cell? ⟨w.heap.size + 1, 1, none⟩ = some (.int .i64 z) := by rw [hw0, World.cell?_alloc_at _ _ _ _ (by simp)]; rfl
  have R2 : Hid (∀ W, Kp w0 W → W.cell? ⟨w.heap.size + 1, 0, none⟩ = some (.int .i64 y) ∧ W.cell? ⟨w.heap.size + 1, 1, none⟩ = some (.int .i64 z)) := fun W k => ⟨k.held r2, k.held r3⟩
  have hb0 : w.heap.size < w0.heap.size := World.block_lt_of_cell? _ _ r0
  have K0 : Hid (Kp w w0) := k0
  clear hw0 k0 r2 r3
  have hm2 := mask63 y
  have hm3 := mask31 z
  obtain ⟨ym, eym⟩ : ∃ ym, y % 64 = ym := ⟨_, rfl⟩
  obtain ⟨zm, ezm⟩ : ∃ zm, z % 32 = zm := ⟨_, rfl⟩
  rw [eym] at hm2
  rw [ezm] at hm3
  clear eym ezm
  go_enter Try.func5, Try.ntmps5
  go_wp2_with fail
  rw [← HW.out]
  clear HW
  go_cut [27, 28, 29] (fun p q i wx => ∃ g, p = .slice (some ⟨g, 0, none⟩) 2 2 ∧ q = .int .i64 2 ∧ i = .int .i64 0 ∧ (wx.cell? ⟨g, 0, none⟩ = some (.int .i64 n) ∧ wx.cell? ⟨g, 1, none⟩ = some (.int .i64 s) ∧ wx.cell? ⟨g, 2, none⟩ = some (.int .i64 N) ∧ wx.cell? ⟨g, 3, none⟩ = some (.int .i64 S)) ∧ Kp w0 wx)
  case first =>
    go_region_held3 (fun W => W.cell? ⟨w.heap.size, 0, none⟩ = some (.int .i64 n) ∧ W.cell? ⟨w.heap.size, 1, none⟩ = some (.int .i64 s)) (first | go_keep | exact ⟨r0, r1⟩ | exact ⟨f0, f1⟩ | exact ⟨((Kp.refl _).alloc _).held f0, ((Kp.refl _).alloc _).held f1⟩)
      (first
      | (go_at_call 16; refine (HM.out _).mono ?_; rintro e w1 ⟨rfl, k1⟩; have f0 : w1.cell? ⟨w.heap.size, 0, none⟩ = some (.int .i64 n) := k1.held (((Kp.refl _).drew).held r0); have f1 : w1.cell? ⟨w.heap.size, 1, none⟩ = some (.int .i64 s) := k1.held (((Kp.refl _).drew).held r1); have K1 : Kp w0 w1 := (Kp.refl w0).drew.trans k1; clear k1))
    go_wp2_with fail
    go_meet
    exact ⟨_, rfl, rfl, rfl, ⟨by rw [World.cell?_alloc_at _ _ _ _ rfl]; rfl, by rw [World.cell?_alloc_at _ _ _ _ rfl]; rfl, by rw [World.cell?_alloc_at _ _ _ _ rfl]; rfl, by rw [World.cell?_alloc_at _ _ _ _ rfl]; rfl⟩, K1.alloc _⟩
  obtain ⟨g, rfl, rfl, rfl, ⟨q0, q1, q2, q3⟩, k3⟩ := hcut
  obtain ⟨w3, hw3⟩ : ∃ w3, w3 = wc := ⟨_, rfl⟩
  rw [← hw3] at q0 q1 q2 q3 k3 ⊢
  have K3 : Hid (Kp w w3) := K0.out.trans k3
  have K3b : Hid (Kp w0 w3) := k3
  have HQ : Hid (∀ k : Nat, k < 2 → ∃ A B : Int, w3.cell? ⟨g, k * 2, none⟩ = some (.int .i64 A) ∧ w3.cell? ⟨g, k * 2 + 1, none⟩ = some (.int .i64 B)) := fun k hk => by
    have h : k = 0 ∨ k = 1 := by omega
    rcases h with rfl | rfl
    · exact ⟨_, _, q0, q1⟩
    · exact ⟨_, _, q2, q3⟩
  clear hw3 k3 q0 q1 q2 q3 HM K0
  go_wp2
  go_loopw [29] (fun i wr => ∃ k : Nat, k ≤ 2 ∧ i = .int .i64 k ∧ Kp w3 wr) (fun i _ => 2 - (intOf i).toNat)
  case atStart => exact ⟨0, by omega, rfl, Kp.refl w3⟩
  case round =>
    obtain ⟨k, hk, rfl, hK⟩ := hrel
    by_cases hlt : k < 2
    · have hdk : decide ((k : Int) < 2) = true := decide_eq_true (by omega)
      obtain ⟨A, B, c0, c1⟩ := HQ.out k hlt
      have d0 := hK.held c0
      have d1 := hK.held c1
      obtain ⟨y0, y1⟩ := R2.out _ (K3b.out.trans hK)
      have hby : w.heap.size + 1 < wr.heap.size := World.block_lt_of_cell? _ _ y0
      clear c0 c1
      obtain ⟨wv, hwv⟩ : ∃ wv, wv = ((wr.alloc (.cells #[.int .i64 A, .int .i64 B] 24)).alloc (.cells #[.int .i64 A, .int .i64 B] 25)).alloc (.cells #[.int .i64 y, .int .i64 z, .int .i64 ym, .int .i64 zm] 31) := ⟨_, rfl⟩
      have HWV : Hid (wv = ((wr.alloc (.cells #[.int .i64 A, .int .i64 B] 24)).alloc (.cells #[.int .i64 A, .int .i64 B] 25)).alloc (.cells #[.int .i64 y, .int .i64 z, .int .i64 ym, .int .i64 zm] 31)) := hwv
      have KV : Hid (Kp wr wv) := by rw [hwv]; exact (((Kp.refl wr).alloc _).alloc _).alloc _
      obtain ⟨gv, hgv⟩ : ∃ gv, gv = wr.heap.size := ⟨_, rfl⟩
      have HV : Hid (∀ W, Kp wv W → W.cell? ⟨gv, 0, none⟩ = some (.int .i64 A) ∧ W.cell? ⟨gv, 1, none⟩ = some (.int .i64 B) ∧ W.cell? ⟨gv + 1, 0, none⟩ = some (.int .i64 A) ∧ W.cell? ⟨gv + 1, 1, none⟩ = some (.int .i64 B)) := fun W k => by
        refine ⟨k.held ?_, k.held ?_, k.held ?_, k.held ?_⟩
        · rw [hwv, hgv]; exact (((Kp.refl _).alloc _).alloc _).held (by rw [World.cell?_alloc_at _ _ _ _ rfl]; rfl)
        · rw [hwv, hgv]; exact (((Kp.refl _).alloc _).alloc _).held (by rw [World.cell?_alloc_at _ _ _ _ rfl]; rfl)
        · rw [hwv, hgv]; exact ((Kp.refl _).alloc _).held (by rw [World.cell?_alloc_at _ _ _ _ (by simp)]; rfl)
        · rw [hwv, hgv]; exact ((Kp.refl _).alloc _).held (by rw [World.cell?_alloc_at _ _ _ _ (by simp)]; rfl)
      have hvb : InB wv (gv + 1 + 1) [y, z, ym, zm] := by
        rw [hwv, hgv]
        have := InB.new ((wr.alloc (.cells #[.int .i64 A, .int .i64 B] 24)).alloc (.cells #[.int .i64 A, .int .i64 B] 25)) [y, z, ym, zm] 31
        simpa using this
      have HVB : Hid (InB wv (gv + 1 + 1) [y, z, ym, zm]) := hvb
      clear hvb
      have hgv2 := hgv.symm
      clear hwv hgv
      have HUB : Hid (∀ j : Nat, j < 2 → ∃ C D : Int, wv.cell? ⟨gv + 1 + 1, j * 2, none⟩ = some (.int .i64 C) ∧ wv.cell? ⟨gv + 1 + 1, j * 2 + 1, none⟩ = some (.int .i64 D)) := fun j hj => ⟨_, _, HVB.out (j * 2) (by simp; omega), HVB.out (j * 2 + 1) (by simp; omega)⟩
      have hby2 : w.heap.size + 1 < gv := by omega
      have hby3 : w.heap.size + 1 < gv + 1 := by omega
      have hby4 : ¬ w.heap.size = gv := by omega
      have hby5 : ¬ w.heap.size + 1 = gv := by omega
      have y2 : ((wr.alloc (.cells #[.int .i64 A, .int .i64 B] 24)).alloc (.cells #[.int .i64 A, .int .i64 B] 25)).cell? ⟨w.heap.size + 1, 0, none⟩ = some (.int .i64 y) := (((Kp.refl _).alloc _).alloc _).held y0
      have y3 : ((wr.alloc (.cells #[.int .i64 A, .int .i64 B] 24)).alloc (.cells #[.int .i64 A, .int .i64 B] 25)).cell? ⟨w.heap.size + 1, 1, none⟩ = some (.int .i64 z) := (((Kp.refl _).alloc _).alloc _).held y1
      go_wp2
      rw [← HWV.out]
      clear HWV d0 d1 y0 y1 y2 y3
      go_loopw [44] (fun i wr => ∃ j : Nat, j ≤ 2 ∧ i = .int .i64 j ∧ Kp wv wr) (fun i _ => 2 - (intOf i).toNat)
      case atStart => exact ⟨0, by omega, rfl, Kp.refl wv⟩
      case round =>
        obtain ⟨j, hj, rfl, hJ⟩ := hrel
        obtain ⟨e0, e1, e2, e3⟩ := HV.out _ hJ
        by_cases hlt2 : j < 2
        · obtain ⟨C, D, p0, p1⟩ := HUB.out j hlt2
          have f0 := hJ.held p0
          have f1 := hJ.held p1
          have hb1 : gv < wr.heap.size := World.block_lt_of_cell? _ _ e0
          have hb2 : gv + 1 < wr.heap.size := World.block_lt_of_cell? _ _ e2
          clear p0 p1
          have h1 := member_any A B C D
          have h2 := rmember_any A B C D
          have h3 := column_any A B C D
          have h4 := rcolumn_any A B C D
          have h5 := row_any A B C
          have h6 := rrow_any A B C
          have h7 := sector_any A B C
          obtain ⟨s0, s1, s2⟩ := sec_row A B C
          obtain ⟨⟨x1, x2⟩, hX⟩ : ∃ X, X = mem A B C D := ⟨_, rfl⟩
          obtain ⟨⟨y1, y2⟩, hY⟩ : ∃ X, X = col A B C D := ⟨_, rfl⟩
          obtain ⟨⟨L, r⟩, hR⟩ : ∃ X, X = row A B C := ⟨_, rfl⟩
          obtain ⟨⟨t1, t2⟩, hT⟩ : ∃ X, X = sec A B C := ⟨_, rfl⟩
          rw [← hX] at h1 h2
          rw [← hY] at h3 h4
          rw [← hR] at h5 h6 s0 s1 s2
          rw [← hT] at h7 s0 s1 s2
          unfold pT gV at h1 h2 h3 h4 h7
          unfold gV at h5 h6
          simp only at h1 h2 h3 h4 h5 h6 h7 s0 s1 s2
          subst s0
          have S1 : Hid (t2 = 0 → t1 = 100 + C ∧ 0 ≤ C ∧ C < 64) := s1
          have S2 : Hid (t2 ≠ 0 → t1 = 0) := s2
          clear hX hY hR hT s1 s2
          go_wp2_with fail
          refine (h1 _).mono ?_; rintro e wa ⟨rfl, ka⟩
          have z0 : wa.cell? ⟨wr.heap.size, 0, none⟩ = some (.int .i64 C) := ka.held (by simp)
          have z1 : wa.cell? ⟨wr.heap.size, 1, none⟩ = some (.int .i64 D) := ka.held (by simp)
          have kk : Kp wr wa := ((Kp.refl wr).alloc _).trans ka
          have e0' := kk.held e0
          have e1' := kk.held e1
          have e2' := kk.held e2
          have e3' := kk.held e3
          have Kwa : Hid (Kp wv wa) := hJ.trans kk
          clear e0 e1 e2 e3 ka kk h1 f0 f1 hJ
          have e0 := e0'
          have e1 := e1'
          have e2 := e2'
          have e3 := e3'
          clear e0' e1' e2' e3'
          go_wp2_with fail
          refine (h2 _).mono ?_; rintro e wb ⟨rfl, kk⟩
          have e0' := kk.held e0
          have e1' := kk.held e1
          have e2' := kk.held e2
          have e3' := kk.held e3
          have z0' := kk.held z0
          have z1' := kk.held z1
          have Kwb : Hid (Kp wv wb) := Kwa.out.trans kk
          clear e0 e1 e2 e3 z0 z1 kk h2
          have e0 := e0'
          have e1 := e1'
          have e2 := e2'
          have e3 := e3'
          have z0 := z0'
          have z1 := z1'
          clear e0' e1' e2' e3' z0' z1'
          go_wp2_with fail
          refine (h3 _).mono ?_; rintro e wd ⟨rfl, kk⟩
          have e0' := kk.held e0
          have e1' := kk.held e1
          have e2' := kk.held e2
          have e3' := kk.held e3
          have z0' := kk.held z0
          have z1' := kk.held z1
          have Kwd : Hid (Kp wv wd) := Kwb.out.trans kk
          clear e0 e1 e2 e3 z0 z1 kk h3
          have e0 := e0'
          have e1 := e1'
          have e2 := e2'
          have e3 := e3'
          have z0 := z0'
          have z1 := z1'
          clear e0' e1' e2' e3' z0' z1'
          go_wp2_with fail
          refine (h4 _).mono ?_; rintro e we ⟨rfl, kk⟩
          have e0' := kk.held e0
          have e1' := kk.held e1
          have e2' := kk.held e2
          have e3' := kk.held e3
          have z0' := kk.held z0
          have z1' := kk.held z1
          have Kwe : Hid (Kp wv we) := Kwd.out.trans kk
          clear e0 e1 e2 e3 z0 z1 kk h4
          have e0 := e0'
          have e1 := e1'
          have e2 := e2'
          have e3 := e3'
          have z0 := z0'
          have z1 := z1'
          clear e0' e1' e2' e3' z0' z1'
          go_wp2_with fail
          refine (h5 _).mono ?_; rintro e wf ⟨l, rfl, hl, kk⟩
          have e0' := kk.held e0
          have e1' := kk.held e1
          have e2' := kk.held e2
          have e3' := kk.held e3
          have z0' := kk.held z0
          have z1' := kk.held z1
          have Kwf : Hid (Kp wv wf) := Kwe.out.trans kk
          have HL : Hid (InI wf l L) := hl
          clear hl
          clear e0 e1 e2 e3 z0 z1 kk h5
          have e0 := e0'
          have e1 := e1'
          have e2 := e2'
          have e3 := e3'
          have z0 := z0'
          have z1 := z1'
          clear e0' e1' e2' e3' z0' z1'
          go_wp2_with fail
          refine (h6 _).mono ?_; rintro e wg ⟨m, rfl, hm, kk⟩
          have e0' := kk.held e0
          have e1' := kk.held e1
          have e2' := kk.held e2
          have e3' := kk.held e3
          have z0' := kk.held z0
          have z1' := kk.held z1
          have Kwg : Hid (Kp wv wg) := Kwf.out.trans kk
          have HM2 : Hid (InI wg m L) := hm
          have HL2 : Hid (InI wg l L) := HL.out.kept kk
          clear hm HL
          clear e0 e1 e2 e3 z0 z1 kk h6
          have e0 := e0'
          have e1 := e1'
          have e2 := e2'
          have e3 := e3'
          have z0 := z0'
          have z1 := z1'
          clear e0' e1' e2' e3' z0' z1'
          go_wp2_with fail
          refine (h7 _).mono ?_; rintro e wh ⟨rfl, kk⟩
          have e0' := kk.held e0
          have e1' := kk.held e1
          have e2' := kk.held e2
          have e3' := kk.held e3
          have z0' := kk.held z0
          have z1' := kk.held z1
          have Kwh : Hid (Kp wv wh) := Kwg.out.trans kk
          have HE : Hid (InI wh l L ∧ InI wh m L) := ⟨HL2.out.kept kk, HM2.out.kept kk⟩
          clear HL2 HM2
          clear e0 e1 e2 e3 z0 z1 kk h7
          have e0 := e0'
          have e1 := e1'
          have e2 := e2'
          have e3 := e3'
          have z0 := z0'
          have z1 := z1'
          clear e0' e1' e2' e3' z0' z1'
          have hEq := equal_any l m L L wh HE.out.1 HE.out.2
          rw [show decide (L = L) = true from decide_eq_true rfl] at hEq
          clear HE
          by_cases hr : t2 = 0
          · obtain ⟨u1, v1, v2⟩ := S1.out hr
            subst hr
            subst u1
            clear S1 S2
            go_wp2_with fail
            refine hEq.mono ?_; rintro e wj ⟨rfl, kj⟩
            have KJ : Kp wv wj := Kwh.out.trans kj
            have z0' := kj.held z0
            clear hEq kj e0 e1 e2 e3 z0 z1
            go_wp2
            go_roundw
            case rel => exact ⟨j + 1, by omega, by go_num, KJ⟩
            case measure => simp [intOf]; omega
          · have u1 := S2.out hr
            subst u1
            have hr2 : (t2 == 0) = false := beq_eq_false_iff_ne.2 hr
            clear S1 S2
            go_wp2_with fail
            refine hEq.mono ?_; rintro e wj ⟨rfl, kj⟩
            have KJ : Kp wv wj := Kwh.out.trans kj
            have z0' := kj.held z0
            clear hEq kj e0 e1 e2 e3 z0 z1
            go_wp2
            go_roundw
            case rel => exact ⟨j + 1, by omega, by go_num, KJ⟩
            case measure => simp [intOf]; omega
        · have KE : Kp w3 wr := (hK.trans KV.out).trans hJ
          go_wp2
          go_roundw
          case rel => exact ⟨k + 1, by omega, by go_num, KE⟩
          case measure => simp [intOf]; omega
    · obtain rfl : k = 2 := by omega
      go_wp2_with fail
      refine (wakes_any wr).mono ?_; rintro e w9 ⟨rfl, k9⟩
      have K9 := (K3.out.trans hK).trans k9
      clear k9
      go_wp2
      go_ret
      exact ⟨rfl, K9⟩
theorem walk (w : World) (a0 b0 : Int) (a1 b1 : Int) (w0 : (Lit.int .i64 a0).wf = true) (x0 : (Lit.int .i64 b0).wf = true) (w1 : (Lit.int .i64 a1).wf = true) (x1 : (Lit.int .i64 b1).wf = true) :
    Calls Try.prog 5 #[.agg #[.int .i64 a0, .int .i64 b0], .agg #[.int .i64 a1, .int .i64 b1]] w fun e w' => e = .returned (.bool true) ∧ Kp w w' := by
  exact walkN w a0 b0 a1 b1

set_option maxRecDepth 100000 in
theorem lifted (os : Os) (started : os.Started) (H : Type) (enc : TypeId × Value → H) :
    ReturnsInHanded {} Try.checked os 5 .any (Rows.geomRowsSpec.pre6 enc Try.prog Try.f5 Rows.geomRowsRow.domain false) (Rows.geomRowsSpec.post enc Try.prog Try.f5 false true false false) := by
  refine returnsInHanded_of_change (C := Try.checked) own started (by kernel_rfl) Try.func5
    (ChangeSpec.witness6 (enc := enc) (C := Try.checked) false ⟨#[], #[.agg #[.int .i64 0, .int .i64 0], .agg #[.int .i64 0, .int .i64 0]], []⟩ 8 (by kernel_rfl) (by kernel_rfl) (by kernel_rfl) (by kernel_rfl)) ?_
  intro W base args ds gs before hval0 hW hcnd _
  have hval : ∀ (j : Nat) t v, Try.f5.params[j]? = some t → args[j]? = some v → Value.okWide Try.prog W .any base t v := hval0
  have hW' := hW
  have hlt := hW.lt
  obtain ⟨p, q, hA0, hV, rfl, hfz, hnd⟩ := hW
  have hA : DataW.TrodAll enc Try.prog W 0 (fun _ => true) true Try.f5.params.toList args.toList ds p := hA0
  have hAk := hA
  rw [Try.params5] at hA hval
  obtain ⟨v0, vs0, d0, ds0, p0, q0, hargs, rfl, rfl, h0, r0⟩ := trodAll_cons hA
  obtain ⟨v1, vs1, d1, ds1, p1, q1, rfl, rfl, rfl, h1, r1⟩ := trodAll_cons r0
  obtain ⟨rfl, rfl, rfl⟩ := trodAll_nil r1
  obtain rfl : args = #[v0, v1] := by cases args; simp_all
  obtain ⟨rfl, rfl⟩ := trodVars_none hV
  obtain ⟨a0, b0, rfl, w0, x0⟩ := open_span Try.underlying23 cellsR rfl rfl cellsI cellsI Try.underlying3 Try.underlying3 (hval 0 23 v0 rfl rfl) h0
  obtain ⟨a1, b1, rfl, w1, x1⟩ := open_ints2 Try.underlying31 Try.underlying3 cellsI cellsJ (hval 1 31 v1 rfl rfl) h1
  clear hA0 hval0
  simp only [List.append_nil] at hW' hAk hlt
  refine (walk W a0 b0 a1 b1 w0 x0 w1 x1).mono fun e W' ⟨he, hg⟩ => ?_
  subst he
  exact ⟨_, rfl, post_kp (pv := []) hW' (fun _ _ _ => (trodAll_cons_mk (shut_bool Try.underlying4 _) trodAll_mk0)) (fun sp hsp => trodAll_stays laidOut (by rw [Try.params5]; exact of_decide_eq_true (by kernel_rfl)) hAk (fun x hx => Below.same hg (hlt x hx)) hsp) (fun _ _ => rfl) (by simp) hg⟩

theorem over : Rows.geomRowsRow.holds Try.pinned (OpenSpec.ofChange Rows.geomRowsSpec) :=
  OpenClaim.holds_of_wide 5 Try.f5 rfl rfl rfl rfl rfl rfl rfl ⟨rfl, rfl, rfl, rfl, rfl⟩ rfl rfl rfl rfl rfl (by kernel_rfl) Try.func5 (by kernel_rfl)
    (of_decide_eq_true (by kernel_rfl)) (by unfold Func.isWrapper; first | (rw [if_pos (by decide +kernel)]; kernel_rfl) | (rw [if_neg (by decide +kernel)]; exact ⟨rfl, rfl⟩))
    (fun os started H enc _ => lifted os started H enc)

end Go.Proofs.Ytbagjfmhaclaeaa.geomRows
namespace Go.Proofs.Ytbagjfmhaclaeaa
theorem geomRows_holds : Rows.GeomRowsSaid := geomRows.over
end Go.Proofs.Ytbagjfmhaclaeaa
