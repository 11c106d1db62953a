/-
  Contract of the laws' wakes, and of a nil queue's calls. No condition.
-/
import Derived.Test.YtdfdoinhkjoalaaQuArgs
namespace Go.Proofs.Ytdfdoinhkjoalaa
open Go.RowKit Plain
set_option linter.unusedVariables false

theorem nz_step {w0 w w' : World} {a : Nat} {T : List Nat} {S S' : QS} (h : QX w0 w a T S) (k : Kp w0 w) (z : Nz QX w0 w w' a T S') : ∃ T', QX w0 w' a T' S' ∧ Kp w0 w' := by
  obtain ⟨T', q1, q2, q3⟩ := z
  exact ⟨T', q1, Sp.kp k q2 (OL.qx.new h)⟩
theorem pt_ok {S : QS} {b : Int} {d : ByteArray} (e : ptE S b d = 0) : ptS S b d = ⟨putL b d S.c S.L, S.m, S.c + 1⟩ := by unfold ptS; rw [if_pos e]
theorem pt_no {S : QS} {b : Int} {d : ByteArray} (e : ptE S b d ≠ 0) : ptS S b d = S := by unfold ptS; rw [if_neg e]
set_option maxRecDepth 100000 in
set_option maxHeartbeats 4000000 in
theorem qwakes_any (w : World) : Calls Try.prog 10 #[] w fun e w' => e = .returned (.bool true) ∧ Kp w w' := by
  obtain ⟨dA, hA⟩ : ∃ d, d = scS 97 false := ⟨_, rfl⟩
  obtain ⟨dB, hB⟩ : ∃ d, d = scS 98 false := ⟨_, rfl⟩
  obtain ⟨dC, hC⟩ : ∃ d, d = scS 99 false := ⟨_, rfl⟩
  obtain ⟨dD, hD⟩ : ∃ d, d = scS 100 false := ⟨_, rfl⟩
  have sA : ∀ W, Calls Try.prog 14 #[.int .u8 97, .bool false] W fun e w' => e = .returned (.string dA) ∧ Kp W w' := fun W => by rw [hA]; exact sector_any 97 (by omega) false W
  have sB : ∀ W, Calls Try.prog 14 #[.int .u8 98, .bool false] W fun e w' => e = .returned (.string dB) ∧ Kp W w' := fun W => by rw [hB]; exact sector_any 98 (by omega) false W
  have sC : ∀ W, Calls Try.prog 14 #[.int .u8 99, .bool false] W fun e w' => e = .returned (.string dC) ∧ Kp W w' := fun W => by rw [hC]; exact sector_any 99 (by omega) false W
  have sD : ∀ W, Calls Try.prog 14 #[.int .u8 100, .bool false] W fun e w' => e = .returned (.string dD) ∧ Kp W w' := fun W => by rw [hD]; exact sector_any 100 (by omega) false W
  have zA : dA.size = 64 := by rw [hA]; exact scS_size _
  have zB : dB.size = 64 := by rw [hB]; exact scS_size _
  have zC : dC.size = 64 := by rw [hC]; exact scS_size _
  have zD : dD.size = 64 := by rw [hD]; exact scS_size _
  clear hA hB hC hD
  have e1 : ptE ⟨[], 2, 0⟩ 5 dA = 0 := by simp [ptE, hsI, zA]
  have f1 : ptS ⟨[], 2, 0⟩ 5 dA = ⟨[⟨5, dA, 0⟩], 2, 1⟩ := by rw [pt_ok e1]; rfl
  have e2 : ptE ⟨[⟨5, dA, 0⟩], 2, 1⟩ 7 dB = 0 := by simp [ptE, hsI, zB]
  have f2 : ptS ⟨[⟨5, dA, 0⟩], 2, 1⟩ 7 dB = ⟨[⟨5, dA, 0⟩, ⟨7, dB, 1⟩], 2, 2⟩ := by rw [pt_ok e2]; rfl
  have e3 : ptE ⟨[⟨5, dA, 0⟩, ⟨7, dB, 1⟩], 2, 2⟩ 5 dC = 0 := by simp [ptE, hsI, zC]
  have f3 : ptS ⟨[⟨5, dA, 0⟩, ⟨7, dB, 1⟩], 2, 2⟩ 5 dC = ⟨[⟨5, dC, 0⟩, ⟨7, dB, 1⟩], 2, 3⟩ := by rw [pt_ok e3]; rfl
  have e4 : ptE ⟨[⟨5, dC, 0⟩, ⟨7, dB, 1⟩], 2, 3⟩ 6 dD = 10 := by simp [ptE, hsI, zD]
  have f4 : ptS ⟨[⟨5, dC, 0⟩, ⟨7, dB, 1⟩], 2, 3⟩ 6 dD = ⟨[⟨5, dC, 0⟩, ⟨7, dB, 1⟩], 2, 3⟩ := pt_no (by rw [e4]; decide)
  have g0 : Qg ⟨[], 2, 0⟩ := ⟨List.Pairwise.nil, by simp, by simp, by simp, by simp, by simp⟩
  have g1 : Qg ⟨[⟨5, dA, 0⟩], 2, 1⟩ := ⟨by simp [Sr], by simp, by simp, by simp, by simp, by simp⟩
  have g2 : Qg ⟨[⟨5, dA, 0⟩, ⟨7, dB, 1⟩], 2, 2⟩ := ⟨by simp [Sr], by simp, by simp, by simp, by simp, by simp⟩
  have g3 : Qg ⟨[⟨5, dC, 0⟩, ⟨7, dB, 1⟩], 2, 3⟩ := ⟨by simp [Sr], by simp, by simp, by simp, by simp, by simp⟩
  have HG : Hid ((ptE ⟨[], 2, 0⟩ 5 dA = 0 ∧ ptS ⟨[], 2, 0⟩ 5 dA = ⟨[⟨5, dA, 0⟩], 2, 1⟩ ∧ ptE ⟨[⟨5, dA, 0⟩], 2, 1⟩ 7 dB = 0 ∧ ptS ⟨[⟨5, dA, 0⟩], 2, 1⟩ 7 dB = ⟨[⟨5, dA, 0⟩, ⟨7, dB, 1⟩], 2, 2⟩ ∧ ptE ⟨[⟨5, dA, 0⟩, ⟨7, dB, 1⟩], 2, 2⟩ 5 dC = 0 ∧ ptS ⟨[⟨5, dA, 0⟩, ⟨7, dB, 1⟩], 2, 2⟩ 5 dC = ⟨[⟨5, dC, 0⟩, ⟨7, dB, 1⟩], 2, 3⟩) ∧ (ptE ⟨[⟨5, dC, 0⟩, ⟨7, dB, 1⟩], 2, 3⟩ 6 dD = 10 ∧ ptS ⟨[⟨5, dC, 0⟩, ⟨7, dB, 1⟩], 2, 3⟩ 6 dD = ⟨[⟨5, dC, 0⟩, ⟨7, dB, 1⟩], 2, 3⟩) ∧ Qg ⟨[], 2, 0⟩ ∧ Qg ⟨[⟨5, dA, 0⟩], 2, 1⟩ ∧ Qg ⟨[⟨5, dA, 0⟩, ⟨7, dB, 1⟩], 2, 2⟩ ∧ Qg ⟨[⟨5, dC, 0⟩, ⟨7, dB, 1⟩], 2, 3⟩) := ⟨⟨e1, f1, e2, f2, e3, f3⟩, ⟨e4, f4⟩, g0, g1, g2, g3⟩
  clear e1 f1 e2 f2 e3 f3 e4 f4 g0 g1 g2 g3 zA zB zC zD
  have hN := qnew_any w 2 w (Nat.le_refl _)
  rw [show qm 2 = 2 from rfl] at hN
  go_enter Try.func10, Try.ntmps10
  go_wp2_with fail
  refine hN.mono ?_; rintro e w1 ⟨a, T1, rfl, x1, k1, _⟩
  clear hN
  go_wp2_with fail
  refine (sA _).mono ?_; rintro e v1 ⟨rfl, j1⟩
  have p1 := qput_any (x1.kept j1) HG.out.2.2.1 5 dA
  rw [HG.out.1.1, HG.out.1.2.1] at p1
  have y1 := x1.kept j1
  have K1 := k1.trans j1
  clear x1 k1 j1 sA
  go_wp2_with fail
  refine p1.mono ?_; rintro e w2 ⟨rfl, z2⟩
  obtain ⟨T2, x2, k2⟩ := nz_step y1 K1 z2
  clear z2 y1 K1 p1
  go_wp2_with fail
  refine (sB _).mono ?_; rintro e v2 ⟨rfl, j2⟩
  have p2 := qput_any (x2.kept j2) HG.out.2.2.2.1 7 dB
  rw [HG.out.1.2.2.1, HG.out.1.2.2.2.1] at p2
  have y2 := x2.kept j2
  have K2 := k2.trans j2
  clear x2 k2 j2
  go_wp2_with fail
  refine p2.mono ?_; rintro e w3 ⟨rfl, z3⟩
  obtain ⟨T3, x3, k3⟩ := nz_step y2 K2 z3
  clear z3 y2 K2 p2
  go_wp2_with fail
  refine (sC _).mono ?_; rintro e v3 ⟨rfl, j3⟩
  have p3 := qput_any (x3.kept j3) HG.out.2.2.2.2.1 5 dC
  rw [HG.out.1.2.2.2.2.1, HG.out.1.2.2.2.2.2] at p3
  have y3 := x3.kept j3
  have K3 := k3.trans j3
  clear x3 k3 j3
  go_wp2_with fail
  refine p3.mono ?_; rintro e w4 ⟨rfl, z4⟩
  obtain ⟨T4, x4, k4⟩ := nz_step y3 K3 z4
  clear z4 y3 K3 p3
  go_wp2_with fail
  refine (sD _).mono ?_; rintro e v4 ⟨rfl, j4⟩
  have p4 := qput_any (x4.kept j4) HG.out.2.2.2.2.2 6 dD
  rw [HG.out.2.1.1, HG.out.2.1.2] at p4
  have y4 := x4.kept j4
  have K4 := k4.trans j4
  clear x4 k4 j4 sD
  go_wp2_with fail
  refine p4.mono ?_; rintro e w5 ⟨rfl, z5⟩
  obtain ⟨T5, x5, k5⟩ := nz_step y4 K4 z5
  clear z5 y4 K4 p4
  go_wp2_with fail
  refine (qitems_any x5 (by simp)).mono ?_; rintro e w6 ⟨u, rfl, ho, k6⟩
  have x6 := x5.kept k6
  have K6 := k5.trans k6
  rcases ho.row with ⟨_, hn⟩ | ⟨g, cap, cs, rfl, _, R, hle, hcm, ht⟩
  · cases hn
  · have q : ∀ j u, (iv [⟨5, dC, 0⟩, ⟨7, dB, 1⟩])[j]? = some u → w6.cell? ⟨g, j, none⟩ = some u := fun j u hj => by
      rw [R.cell, ← hj, ← ht, List.getElem?_take]
      have : j < 6 := by have := (List.getElem?_eq_some_iff.1 hj).1; simpa [iv] using this
      rw [if_pos (by simp; omega)]
    have q0 := kpw_cell (q 0 _ rfl)
    have q1 := kpw_cell (q 1 _ rfl)
    have q2 := kpw_cell (q 2 _ rfl)
    have q3 := kpw_cell (q 3 _ rfl)
    have q4 := kpw_cell (q 4 _ rfl)
    have q5 := kpw_cell (q 5 _ rfl)
    have hCl := fun p => qclock_any (x6.kept (kpw_kp w6 p))
    simp only at hCl
    have hcm2 : cap ≤ 9223372036854775807 := by unfold maxLen at hcm; omega
    have KK : Hid (Kp w w6) := K6
    clear q R ht x5 k5 x6 K6 ho HG
    simp only [List.length_cons, List.length_nil] at hle ⊢
    go_wp2_with fail
    refine wp_region_kp (by kernel_rfl) (by kernel_rfl) ?_
    repeat (first
      | go_big_quiet_skip
      | (go_big_quiet_want; go_big_quiet_op; go_big_quiet_on)
      | (go_big_quiet_want; go_big_quiet_op; apply Exists.intro; refine ⟨fun p => ?_, ?_⟩; (focus (first | (go_at_call 14; with_reducible exact kp_call (sC _)) | (go_at_call 14; with_reducible exact kp_call (sB _)) | (go_at_call 27; with_reducible exact kp_call (hCl _)))); go_big_quiet_on))
    refine wpQuiet_nil ?_
    rintro w7 ⟨p, hp⟩
    have K7 : Hid (Kp w w7) := by show Kp w w7; rw [hp]; exact KK.out.trans (kpw_kp _ p)
    clear hp q0 q1 q2 q3 q4 q5 hCl sB sC
    go_wp2
    go_ret
    exact ⟨by simp, K7.out⟩

end Go.Proofs.Ytdfdoinhkjoalaa
