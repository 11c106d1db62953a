/-
  For every label as plain data the law function LabelGood returns true (Go: trunnionlaw12.LabelGood). No condition.
-/
import Derived.Test.YtobpgfnmhpgkeaaRows
import Derived.Test.YtobpgfnmhpgkeaaBufArgs
import Derived.Test.YtobpgfnmhpgkeaaLbLabels
import Derived.Test.YtobpgfnmhpgkeaaLbAsk
import Derived.Test.YtobpgfnmhpgkeaaLbWakes
import Derived.Test.YtobpgfnmhpgkeaaLbArgs
import Derived.Test.YtobpgfnmhpgkeaaLbRPut
import Derived.WalkKit
import Derived.ProofKit
import Derived.OpenShut
import Derived.ShutString
import Derived.Deep.QuietTactic
import Derived.BigQuiet
import Derived.Deep.RegionWith
import Derived.Deep.RegionHeld3
import Derived.Deep.DeepCutAuto
import Derived.Deep.CutBlock
namespace Go.Proofs.Ytobpgfnmhpgkeaa.labelGood
open Go.ChangeShapes Go.WideShapes Go.ChangeAt Go.RowKit
open Go.ChangeMaps (open_string shut_string)
open Go.Proofs.Ytobpgfnmhpgkeaa Plain
set_option linter.unusedVariables false

theorem own : ownKnob Try.prog.godebug = none := by kernel_rfl
theorem laidOut : laidOutB Try.prog = true := by kernel_rfl
theorem want_end (V : World) (n s ep : Int) (sv mv : Value) (t e1 e2 : TypeId) (N : Nat) (hN : N ≤ 32) :
    Lc (((V.alloc (.cells #[.int .i64 n, .int .i64 s, .int .i64 ep, sv, mv] t)).alloc (.cells (madeCells #[.int .i64 0] N) e1)).alloc (.cells (madeCells #[.int .i64 0] N) e2)).drew V.heap.size n s ep sv mv ∧
    Nl (((V.alloc (.cells #[.int .i64 n, .int .i64 s, .int .i64 ep, sv, mv] t)).alloc (.cells (madeCells #[.int .i64 0] N) e1)).alloc (.cells (madeCells #[.int .i64 0] N) e2)).drew (.slice (some ⟨V.heap.size + 1, 0, none⟩) N N) (List.replicate N 0) ∧
    Nl (((V.alloc (.cells #[.int .i64 n, .int .i64 s, .int .i64 ep, sv, mv] t)).alloc (.cells (madeCells #[.int .i64 0] N) e1)).alloc (.cells (madeCells #[.int .i64 0] N) e2)).drew (.slice (some ⟨V.heap.size + 1 + 1, 0, none⟩) N N) (List.replicate N 0) ∧
    Kp V (((V.alloc (.cells #[.int .i64 n, .int .i64 s, .int .i64 ep, sv, mv] t)).alloc (.cells (madeCells #[.int .i64 0] N) e1)).alloc (.cells (madeCells #[.int .i64 0] N) e2)).drew := by
  have h1 := Lc.new V n s ep sv mv t
  have h2 := Fe.made e1 (V.alloc (.cells #[.int .i64 n, .int .i64 s, .int .i64 ep, sv, mv] t)) N (by omega)
  have h3 := Fe.made e2 ((V.alloc (.cells #[.int .i64 n, .int .i64 s, .int .i64 ep, sv, mv] t)).alloc (.cells (madeCells #[.int .i64 0] N) e1)) N (by omega)
  simp only [asz] at h2 h3
  have er : (List.range N).map (fun _ => (0 : Int)) = List.replicate N 0 := by rw [List.map_const', List.length_range]
  have n2 := (h2.kept ((Kp.refl _).alloc (.cells (madeCells #[.int .i64 0] N) e2)).drew).nums
  have n3 := (h3.kept (Kp.refl _).drew).nums
  rw [er] at n2 n3
  exact ⟨h1.kept (((Kp.refl _).alloc _).alloc _).drew, n2, n3, (((Kp.refl V).alloc _).alloc _).alloc _ |>.drew⟩
set_option maxRecDepth 100000 in
set_option maxHeartbeats 8000000 in
theorem walkN (w : World) (n s ep : Int) (rs rm : Value) (sts mks : List Int) (h1 : Nl w rs sts) (h2 : Nl w rm mks)  :
    Calls Try.prog 3 #[lV n s ep rs rm] w fun e w' => e = .returned (.bool true) ∧ Kp w w' := by
  obtain ⟨ra, rn, rc, rfl⟩ := h1.shape
  obtain ⟨rb, rm', rd, rfl⟩ := h2.shape
  have hLb := fun w' (k : Kp w w') => labels_any n s ep _ _ sts mks w' (h1.kept k) (h2.kept k)
  unfold lV at hLb ⊢
  clear h1 h2
  go_enter Try.func3, Try.ntmps3
  go_wp2_with fail
  refine (hLb _ ((Kp.refl w).alloc _)).mono ?_; rintro e w1 ⟨sv1, mv1, sv2, mv2, rfl, ⟨n1, n2⟩, ⟨n3, n4⟩, k1⟩
  obtain ⟨x1, y1, z1, rfl⟩ := n1.shape
  obtain ⟨x2, y2, z2, rfl⟩ := n2.shape
  obtain ⟨x3, y3, z3, rfl⟩ := n3.shape
  obtain ⟨x4, y4, z4, rfl⟩ := n4.shape
  obtain ⟨S, hS⟩ : ∃ S, S = sts.take 40 := ⟨_, rfl⟩
  obtain ⟨M, hM⟩ : ∃ M, M = mks.take 40 := ⟨_, rfl⟩
  rw [← hS] at n1 n3
  rw [← hM] at n2 n4
  have K1 : Hid (Kp w w1) := Kp.trans ((Kp.refl w).alloc _) k1
  have r0 : w1.cell? ⟨w.heap.size, 0, none⟩ = some (.int .i64 n) := k1.held (by simp)
  have q1 := (Lc.new w1 n s ep (.slice x1 y1 z1) (.slice x2 y2 z2) 29).kept ((Kp.refl _).alloc (.cells #[.int .i64 n, .int .i64 s, .int .i64 ep, .slice x3 y3 z3, .slice x4 y4 z4] 32))
  have q2 := Lc.new (w1.alloc (.cells #[.int .i64 n, .int .i64 s, .int .i64 ep, .slice x1 y1 z1, .slice x2 y2 z2] 29)) n s ep (.slice x3 y3 z3) (.slice x4 y4 z4) 32
  rw [asz] at q2
  have kW : Kp w1 ((w1.alloc (.cells #[.int .i64 n, .int .i64 s, .int .i64 ep, .slice x1 y1 z1, .slice x2 y2 z2] 29)).alloc (.cells #[.int .i64 n, .int .i64 s, .int .i64 ep, .slice x3 y3 z3, .slice x4 y4 z4] 32)) := ((Kp.refl w1).alloc _).alloc _
  obtain ⟨W1, hW1⟩ : ∃ W, W = (w1.alloc (.cells #[.int .i64 n, .int .i64 s, .int .i64 ep, .slice x1 y1 z1, .slice x2 y2 z2] 29)).alloc (.cells #[.int .i64 n, .int .i64 s, .int .i64 ep, .slice x3 y3 z3, .slice x4 y4 z4] 32) := ⟨_, rfl⟩
  have HW1 := hid hW1
  rw [← hW1] at q1 q2 kW
  have hN := fun V (k : Kp W1 V) => And.intro (And.intro (n1.kept (kW.trans k)) (n2.kept (kW.trans k))) (And.intro (n3.kept (kW.trans k)) (n4.kept (kW.trans k)))
  have KW1 : Hid (Kp w W1) := K1.out.trans kW
  have r1 : W1.cell? ⟨w.heap.size, 0, none⟩ = some (.int .i64 n) := kW.held r0
  clear r0 hW1 hS hM hLb k1 n1 n2 n3 n4 kW K1
  obtain ⟨A, hA⟩ : ∃ A, A = w1.heap.size := ⟨_, rfl⟩
  rw [← hA] at q1 q2
  have hA2 := hA.symm
  have hp1 := put_any ⟨n, s, ep, S, M⟩ _ _ W1 (hN _ (Kp.refl W1)).1.1 (hN _ (Kp.refl W1)).1.2
  have hp2 := fun w' (k : Kp W1 w') => rput_any ⟨n, s, ep, S, M⟩ _ _ w' (hN _ k).2.1 (hN _ k).2.2
  simp only at hp1 hp2
  unfold lV at hp1 hp2
  obtain ⟨PS, ePS⟩ : ∃ x, x = puS ⟨n, s, ep, S, M⟩ := ⟨_, rfl⟩
  obtain ⟨PE, ePE⟩ : ∃ x, x = puE ⟨n, s, ep, S, M⟩ := ⟨_, rfl⟩
  rw [← ePS, ← ePE] at hp1 hp2
  have hcmp : (PS.toList == PS.toList) = true := by simp
  have HN := hid hN
  clear ePS ePE hA hN
  have l1 := q1
  obtain ⟨a0, a1, a2, a3, a4⟩ := l1
  go_wp2_with fail
  rw [← HW1.out]
  clear HW1 hA2
  refine hp1.mono ?_; rintro e w2 ⟨rfl, k2⟩
  have t2 := q2.kept k2
  have t1 := q1.kept k2
  have t0 := k2.held r1
  have HK2 := hid k2
  clear hp1 a0 a1 a2 a3 a4 q1 q2 r1 k2
  obtain ⟨b0, b1, b2, b3, b4⟩ := t2
  go_wp2_with fail
  refine (hp2 _ HK2.out).mono ?_; rintro e w3 ⟨rfl, k3⟩
  have q1 := t1.kept k3
  have q2 := (Lc.mk b0 b1 b2 b3 b4).kept k3
  have r1 := k3.held t0
  have HK3 := hid (HK2.out.trans k3)
  clear hp2 t1 t0 b0 b1 b2 b3 b4 k3 HK2
  have hNw := new_any n s
  have hRg := rgood_any n s
  unfold gV lV at hNw
  unfold gV at hRg
  have l1 := q1
  obtain ⟨a0, a1, a2, a3, a4⟩ := l1
  cases e1 : gg n s with
  | false =>
    rw [e1] at hNw hRg
    simp only [Bool.false_eq_true, if_false, false_imp_iff, true_and] at hNw
    go_wp2_with fail
    refine (hNw _).mono ?_; rintro e w4 ⟨sv, mv, rfl, k4⟩
    have u1 := (q1.kept k4).kept ((Kp.refl _).alloc (.cells #[.int .i64 0, .int .i64 0, .int .i64 0, .slice none 0 0, .slice none 0 0] 29))
    have u2 := (q2.kept k4).kept ((Kp.refl _).alloc (.cells #[.int .i64 0, .int .i64 0, .int .i64 0, .slice none 0 0, .slice none 0 0] 29))
    have u3 := Lc.new w4 0 0 0 (.slice none 0 0) (.slice none 0 0) 29
    have HK4 := hid ((HK3.out.trans k4).alloc (.cells #[.int .i64 0, .int .i64 0, .int .i64 0, .slice none 0 0, .slice none 0 0] 29))
    have b0 := (q2.kept k4).c0
    have b1 := (q2.kept k4).c1
    have hlA : A + 1 < w4.heap.size := World.block_lt_of_cell? _ _ b0
    clear hNw a0 a1 a2 a3 a4 q1 q2 r1 k4
    obtain ⟨V, hV⟩ : ∃ V, V = w4.alloc (.cells #[.int .i64 0, .int .i64 0, .int .i64 0, .slice none 0 0, .slice none 0 0] 29) := ⟨_, rfl⟩
    have HV := hid hV
    rw [← hV] at u1 u2 u3 HK4
    obtain ⟨C, hC⟩ : ∃ C, C = w4.heap.size := ⟨_, rfl⟩
    rw [← hC] at u3
    have hC2 := hC.symm
    have hlA2 : A + 1 < C := by rw [hC]; exact hlA
    clear hV hC
    go_wp2_with fail
    rw [← HV.out]
    refine (hRg _).mono ?_; rintro e w5 ⟨rfl, k5⟩
    clear HV hC2 b0 b1 hRg hlA hlA2
    have q1 := (u1.kept k5).kept ((Kp.refl _).alloc (.cells #[.int .i64 0, .int .i64 0, .int .i64 0, .slice none 0 0, .slice none 0 0] 32))
    have q2 := (u2.kept k5).kept ((Kp.refl _).alloc (.cells #[.int .i64 0, .int .i64 0, .int .i64 0, .slice none 0 0, .slice none 0 0] 32))
    have q3 := (u3.kept k5).kept ((Kp.refl _).alloc (.cells #[.int .i64 0, .int .i64 0, .int .i64 0, .slice none 0 0, .slice none 0 0] 32))
    have q4 := Lc.new w5 0 0 0 (.slice none 0 0) (.slice none 0 0) 32
    have kz : Kp W1 (w5.alloc (.cells #[.int .i64 0, .int .i64 0, .int .i64 0, .slice none 0 0, .slice none 0 0] 32)) := (HK4.out.trans k5).alloc _
    obtain ⟨W2, hW2⟩ : ∃ V, V = w5.alloc (.cells #[.int .i64 0, .int .i64 0, .int .i64 0, .slice none 0 0, .slice none 0 0] 32) := ⟨_, rfl⟩
    have HW2 := hid hW2
    rw [← hW2] at q1 q2 q3 q4 kz
    obtain ⟨D, hD⟩ : ∃ D, D = w5.heap.size := ⟨_, rfl⟩
    rw [← hD] at q4
    have hD2 := hD.symm
    have hN2 := fun V (k : Kp W2 V) => HN.out V (kz.trans k)
    have K2 := hid (KW1.out.trans kz)
    have m1 := Nl.nil W2
    have m2 := Nl.nil W2
    have m3 := Nl.nil W2
    have m4 := Nl.nil W2
    clear hW2 hD u1 u2 u3 HK4 k5 kz HN
    go_wp2_with fail
    rw [← HW2.out]
    clear HW2 hD2
    have a0 := kpw_cell q1.c0
    have a1 := kpw_cell q1.c1
    have a2 := kpw_cell q1.c2
    have a3 := kpw_cell q1.c3
    have a4 := kpw_cell q1.c4
    have b0 := kpw_cell q2.c0
    have b1 := kpw_cell q2.c1
    have b2 := kpw_cell q2.c2
    have b3 := kpw_cell q2.c3
    have b4 := kpw_cell q2.c4
    have c0 := kpw_cell q3.c0
    have c1 := kpw_cell q3.c1
    have c2 := kpw_cell q3.c2
    have c3 := kpw_cell q3.c3
    have c4 := kpw_cell q3.c4
    have d0 := kpw_cell q4.c0
    have d1 := kpw_cell q4.c1
    have d2 := kpw_cell q4.c2
    have d3 := kpw_cell q4.c3
    have d4 := kpw_cell q4.c4
    have k1 := fun p => lgood_any ⟨n, s, ep, S, M⟩ _ _ (kpw W2 p) (hN2 _ (kpw_kp W2 p)).1.1 (hN2 _ (kpw_kp W2 p)).1.2
    have k2 := fun p => rlgood_any ⟨n, s, ep, S, M⟩ _ _ (kpw W2 p) (hN2 _ (kpw_kp W2 p)).2.1 (hN2 _ (kpw_kp W2 p)).2.2
    have k3 := fun p => same_any noL _ _ _ _ (kpw W2 p) (m1.kept (kpw_kp W2 p)) (m2.kept (kpw_kp W2 p)) (m3.kept (kpw_kp W2 p)) (m4.kept (kpw_kp W2 p))
    simp only at k1 k2 k3
    unfold lV at k1 k2 k3
    obtain ⟨X, eX⟩ : ∃ x, x = lg ⟨n, s, ep, S, M⟩ := ⟨_, rfl⟩
    rw [← eX] at k1 k2
    clear eX hN2 q1 q2 q3 q4 m1 m2 m3 m4
    unfold noL at k3
    simp only at k3
    refine wp_region_kp (by kernel_rfl) (by kernel_rfl) ?_
    repeat (first
      | go_big_quiet_skip
      | (go_big_quiet_want; go_big_quiet_op; go_big_quiet_on)
      | (go_big_quiet_want; go_big_quiet_op; apply Exists.intro; refine ⟨fun p => ?_, ?_⟩; (focus
          first
          | (go_at_call 14; exact kp_call (wakes_any _))
          | (go_at_call 15; exact kp_call (k1 _))
          | (go_at_call 16; exact kp_call (k2 _))
          | (go_at_call 17; exact kp_call (k3 _))); go_big_quiet_on))
    refine wpQuiet_nil ?_
    rintro w6 ⟨p, rfl⟩
    have KF := K2.out.trans (kpw_kp W2 p)
    clear a0 a1 a2 a3 a4 b0 b1 b2 b3 b4 c0 c1 c2 c3 c4 d0 d1 d2 d3 d4 k1 k2 k3
    go_wp2
    go_ret
    exact ⟨rfl, KF⟩
  | true =>
    rw [e1] at hNw hRg
    obtain ⟨g1, g2, g3, g4⟩ := (gg_iff n s).1 e1
    obtain ⟨N, rfl⟩ : ∃ N : Nat, n = N := ⟨n.toNat, by omega⟩
    simp only [if_true, true_imp_iff, Int.toNat_natCast] at hNw
    go_wp2_with fail
    refine (hNw _).mono ?_; rintro e w4 ⟨sv, mv, rfl, ⟨m1, m2⟩, k4⟩
    obtain ⟨f1, f2, f3, rfl⟩ := m1.shape
    obtain ⟨f4, f5, f6, rfl⟩ := m2.shape
    have u1 := (q1.kept k4).kept ((Kp.refl _).alloc (.cells #[.int .i64 (N : Int), .int .i64 s, .int .i64 1, .slice f1 f2 f3, .slice f4 f5 f6] 29))
    have u2 := (q2.kept k4).kept ((Kp.refl _).alloc (.cells #[.int .i64 (N : Int), .int .i64 s, .int .i64 1, .slice f1 f2 f3, .slice f4 f5 f6] 29))
    have u3 := Lc.new w4 N s 1 (.slice f1 f2 f3) (.slice f4 f5 f6) 29
    have u4 := (k4.held r1)
    have u5 := ((Kp.refl w4).alloc (.cells #[.int .i64 (N : Int), .int .i64 s, .int .i64 1, .slice f1 f2 f3, .slice f4 f5 f6] 29)).held u4
    have HK4 := hid ((HK3.out.trans k4).alloc (.cells #[.int .i64 (N : Int), .int .i64 s, .int .i64 1, .slice f1 f2 f3, .slice f4 f5 f6] 29))
    have m3 := m1.kept ((Kp.refl _).alloc (.cells #[.int .i64 (N : Int), .int .i64 s, .int .i64 1, .slice f1 f2 f3, .slice f4 f5 f6] 29))
    have m4 := m2.kept ((Kp.refl _).alloc (.cells #[.int .i64 (N : Int), .int .i64 s, .int .i64 1, .slice f1 f2 f3, .slice f4 f5 f6] 29))
    have b0 := (q2.kept k4).c0
    have b1 := (q2.kept k4).c1
    have hlA : A + 1 < w4.heap.size := World.block_lt_of_cell? _ _ b0
    clear hNw a0 a1 a2 a3 a4 q1 q2 r1 k4 u4 m1 m2
    obtain ⟨V, hV⟩ : ∃ V, V = w4.alloc (.cells #[.int .i64 (N : Int), .int .i64 s, .int .i64 1, .slice f1 f2 f3, .slice f4 f5 f6] 29) := ⟨_, rfl⟩
    have HV := hid hV
    rw [← hV] at u1 u2 u3 HK4 m3 m4 u5
    obtain ⟨C, hC⟩ : ∃ C, C = w4.heap.size := ⟨_, rfl⟩
    rw [← hC] at u3
    have hC2 := hC.symm
    have hlA2 : A + 1 < C := by rw [hC]; exact hlA
    clear hV hC
    go_wp2_with fail
    rw [← HV.out]
    refine (hRg _).mono ?_; rintro e w5 ⟨rfl, k5⟩
    clear HV hC2 b0 b1 hRg hlA hlA2
    have t1 := u1.kept k5
    have t2 := u2.kept k5
    have t3 := u3.kept k5
    have t4 := k5.held u5
    have t5 := m3.kept k5
    have t6 := m4.kept k5
    have HK5 := hid (HK4.out.trans k5)
    have b0 := t2.c0
    have b1 := t2.c1
    have hlA : A + 1 < w5.heap.size := World.block_lt_of_cell? _ _ b0
    have hlR : w.heap.size < w5.heap.size := World.block_lt_of_cell? _ _ t4
    have hm2 := fun W => run_make_row' (P := Try.prog) 22 3 (.int .i64 0) 8 Try.underlying22 eiI.i rfl .i64 .i64 N (by omega) (by omega) W
    have x1' : ∀ q r : Obj, ((w5.alloc q).alloc r).cell? ⟨A + 1, 0, none⟩ = some (.int .i64 (N : Int)) := fun q r => (((Kp.refl w5).alloc q).alloc r).held b0
    have x2' : ∀ q r : Obj, ((w5.alloc q).alloc r).cell? ⟨A + 1, 1, none⟩ = some (.int .i64 s) := fun q r => (((Kp.refl w5).alloc q).alloc r).held b1
    have x3' : ∀ q r : Obj, ((w5.alloc q).alloc r).cell? ⟨w.heap.size, 0, none⟩ = some (.int .i64 (N : Int)) := fun q r => (((Kp.refl w5).alloc q).alloc r).held t4
    have x4' : ∀ q r o : Obj, (((w5.alloc q).alloc r).alloc o).cell? ⟨A + 1, 0, none⟩ = some (.int .i64 (N : Int)) := fun q r o => ((((Kp.refl w5).alloc q).alloc r).alloc o).held b0
    have x5' : ∀ q r o : Obj, (((w5.alloc q).alloc r).alloc o).cell? ⟨A + 1, 1, none⟩ = some (.int .i64 s) := fun q r o => ((((Kp.refl w5).alloc q).alloc r).alloc o).held b1
    have HN5 := hid (fun V (k : Kp w5 V) => HN.out V (HK5.out.trans k))
    have KW5 := hid (KW1.out.trans HK5.out)
    have T1 := hid t1
    have T2 := hid t2
    have T3 := hid t3
    have T5 := hid t5
    have T6 := hid t6
    have HNb := hid (show N ≤ 32 by omega)
    clear u1 u2 u3 u5 m3 m4 k5 HK4 t1 t2 t3 t5 t6 HN KW1 HK3 HK5
    go_wp2_with fail
    go_region
    all_goals clear x1' x2' x3' x4' x5' b0 b1 t4 hm2
    · obtain ⟨q4, m3, m4, kz⟩ := want_end w5 N s 1 (.slice (some ⟨w5.heap.size + 1, 0, none⟩) N N) (.slice (some ⟨w5.heap.size + 1 + 1, 0, none⟩) N N) 32 3 3 N HNb.out
      have q1 := T1.out.kept kz
      have q2 := T2.out.kept kz
      have q3 := T3.out.kept kz
      have m1 := T5.out.kept kz
      have m2 := T6.out.kept kz
      obtain ⟨W2, hW2⟩ : ∃ V, V = (((w5.alloc (.cells #[.int .i64 (N : Int), .int .i64 s, .int .i64 1, .slice (some ⟨w5.heap.size + 1, 0, none⟩) N N, .slice (some ⟨w5.heap.size + 1 + 1, 0, none⟩) N N] 32)).alloc (.cells (madeCells #[.int .i64 0] N) 3)).alloc (.cells (madeCells #[.int .i64 0] N) 3)).drew := ⟨_, rfl⟩
      have HW2 := hid hW2
      rw [← hW2] at q1 q2 q3 q4 kz m1 m2 m3 m4
      have hN2 := fun V (k : Kp W2 V) => HN5.out V (kz.trans k)
      have K2 := hid (KW5.out.trans kz)
      clear hW2 kz T1 T2 T3 T5 T6 HN5 KW5
      go_wp2_with fail
      rw [← HW2.out]
      clear HW2
      have a0 := kpw_cell q1.c0
      have a1 := kpw_cell q1.c1
      have a2 := kpw_cell q1.c2
      have a3 := kpw_cell q1.c3
      have a4 := kpw_cell q1.c4
      have b0 := kpw_cell q2.c0
      have b1 := kpw_cell q2.c1
      have b2 := kpw_cell q2.c2
      have b3 := kpw_cell q2.c3
      have b4 := kpw_cell q2.c4
      have c0 := kpw_cell q3.c0
      have c1 := kpw_cell q3.c1
      have c2 := kpw_cell q3.c2
      have c3 := kpw_cell q3.c3
      have c4 := kpw_cell q3.c4
      have d0 := kpw_cell q4.c0
      have d1 := kpw_cell q4.c1
      have d2 := kpw_cell q4.c2
      have d3 := kpw_cell q4.c3
      have d4 := kpw_cell q4.c4
      have k1 := fun p => lgood_any ⟨(N : Int), s, ep, S, M⟩ _ _ (kpw W2 p) (hN2 _ (kpw_kp W2 p)).1.1 (hN2 _ (kpw_kp W2 p)).1.2
      have k2 := fun p => rlgood_any ⟨(N : Int), s, ep, S, M⟩ _ _ (kpw W2 p) (hN2 _ (kpw_kp W2 p)).2.1 (hN2 _ (kpw_kp W2 p)).2.2
      have k3 := fun p => same_any ⟨(N : Int), s, 1, List.replicate N 0, List.replicate N 0⟩ _ _ _ _ (kpw W2 p) (m1.kept (kpw_kp W2 p)) (m2.kept (kpw_kp W2 p)) (m3.kept (kpw_kp W2 p)) (m4.kept (kpw_kp W2 p))
      simp only at k1 k2 k3
      unfold lV at k1 k2 k3
      obtain ⟨X, eX⟩ : ∃ x, x = lg ⟨(N : Int), s, ep, S, M⟩ := ⟨_, rfl⟩
      rw [← eX] at k1 k2
      clear eX hN2 q1 q2 q3 q4 m1 m2 m3 m4
      refine wp_region_kp (by kernel_rfl) (by kernel_rfl) ?_
      repeat (first
        | go_big_quiet_skip
        | (go_big_quiet_want; go_big_quiet_op; go_big_quiet_on)
        | (go_big_quiet_want; go_big_quiet_op; apply Exists.intro; refine ⟨fun p => ?_, ?_⟩; (focus
            first
            | (go_at_call 14; exact kp_call (wakes_any _))
            | (go_at_call 15; exact kp_call (k1 _))
            | (go_at_call 16; exact kp_call (k2 _))
            | (go_at_call 17; exact kp_call (k3 _))); go_big_quiet_on))
      refine wpQuiet_nil ?_
      rintro w6 ⟨p, rfl⟩
      have KF := K2.out.trans (kpw_kp W2 p)
      clear a0 a1 a2 a3 a4 b0 b1 b2 b3 b4 c0 c1 c2 c3 c4 d0 d1 d2 d3 d4 k1 k2 k3
      go_wp2
      go_ret
      exact ⟨rfl, KF⟩
    · obtain ⟨q4, m4, m3, kz⟩ := want_end w5 N s 1 (.slice (some ⟨w5.heap.size + 1 + 1, 0, none⟩) N N) (.slice (some ⟨w5.heap.size + 1, 0, none⟩) N N) 32 3 3 N HNb.out
      have q1 := T1.out.kept kz
      have q2 := T2.out.kept kz
      have q3 := T3.out.kept kz
      have m1 := T5.out.kept kz
      have m2 := T6.out.kept kz
      obtain ⟨W2, hW2⟩ : ∃ V, V = (((w5.alloc (.cells #[.int .i64 (N : Int), .int .i64 s, .int .i64 1, .slice (some ⟨w5.heap.size + 1 + 1, 0, none⟩) N N, .slice (some ⟨w5.heap.size + 1, 0, none⟩) N N] 32)).alloc (.cells (madeCells #[.int .i64 0] N) 3)).alloc (.cells (madeCells #[.int .i64 0] N) 3)).drew := ⟨_, rfl⟩
      have HW2 := hid hW2
      rw [← hW2] at q1 q2 q3 q4 kz m1 m2 m3 m4
      have hN2 := fun V (k : Kp W2 V) => HN5.out V (kz.trans k)
      have K2 := hid (KW5.out.trans kz)
      clear hW2 kz T1 T2 T3 T5 T6 HN5 KW5
      go_wp2_with fail
      rw [← HW2.out]
      clear HW2
      have a0 := kpw_cell q1.c0
      have a1 := kpw_cell q1.c1
      have a2 := kpw_cell q1.c2
      have a3 := kpw_cell q1.c3
      have a4 := kpw_cell q1.c4
      have b0 := kpw_cell q2.c0
      have b1 := kpw_cell q2.c1
      have b2 := kpw_cell q2.c2
      have b3 := kpw_cell q2.c3
      have b4 := kpw_cell q2.c4
      have c0 := kpw_cell q3.c0
      have c1 := kpw_cell q3.c1
      have c2 := kpw_cell q3.c2
      have c3 := kpw_cell q3.c3
      have c4 := kpw_cell q3.c4
      have d0 := kpw_cell q4.c0
      have d1 := kpw_cell q4.c1
      have d2 := kpw_cell q4.c2
      have d3 := kpw_cell q4.c3
      have d4 := kpw_cell q4.c4
      have k1 := fun p => lgood_any ⟨(N : Int), s, ep, S, M⟩ _ _ (kpw W2 p) (hN2 _ (kpw_kp W2 p)).1.1 (hN2 _ (kpw_kp W2 p)).1.2
      have k2 := fun p => rlgood_any ⟨(N : Int), s, ep, S, M⟩ _ _ (kpw W2 p) (hN2 _ (kpw_kp W2 p)).2.1 (hN2 _ (kpw_kp W2 p)).2.2
      have k3 := fun p => same_any ⟨(N : Int), s, 1, List.replicate N 0, List.replicate N 0⟩ _ _ _ _ (kpw W2 p) (m1.kept (kpw_kp W2 p)) (m2.kept (kpw_kp W2 p)) (m3.kept (kpw_kp W2 p)) (m4.kept (kpw_kp W2 p))
      simp only at k1 k2 k3
      unfold lV at k1 k2 k3
      obtain ⟨X, eX⟩ : ∃ x, x = lg ⟨(N : Int), s, ep, S, M⟩ := ⟨_, rfl⟩
      rw [← eX] at k1 k2
      clear eX hN2 q1 q2 q3 q4 m1 m2 m3 m4
      refine wp_region_kp (by kernel_rfl) (by kernel_rfl) ?_
      repeat (first
        | go_big_quiet_skip
        | (go_big_quiet_want; go_big_quiet_op; go_big_quiet_on)
        | (go_big_quiet_want; go_big_quiet_op; apply Exists.intro; refine ⟨fun p => ?_, ?_⟩; (focus
            first
            | (go_at_call 14; exact kp_call (wakes_any _))
            | (go_at_call 15; exact kp_call (k1 _))
            | (go_at_call 16; exact kp_call (k2 _))
            | (go_at_call 17; exact kp_call (k3 _))); go_big_quiet_on))
      refine wpQuiet_nil ?_
      rintro w6 ⟨p, rfl⟩
      have KF := K2.out.trans (kpw_kp W2 p)
      clear a0 a1 a2 a3 a4 b0 b1 b2 b3 b4 c0 c1 c2 c3 c4 d0 d1 d2 d3 d4 k1 k2 k3
      go_wp2
      go_ret
      exact ⟨rfl, KF⟩
theorem walk (w : World) (a0 : RL) (w0 : ROk w a0) :
    Calls Try.prog 3 #[rV a0] w fun e w' => e = .returned (.bool true) ∧ Kp w w' := by
  exact walkN w a0.n a0.s a0.ep a0.sv a0.mv a0.sts a0.mks w0.h1 w0.h2

set_option maxRecDepth 100000 in
theorem lifted (os : Os) (started : os.Started) (H : Type) (enc : TypeId × Value → H) :
    ReturnsInHanded {} Try.checked os 3 .any (Rows.labelGoodSpec.pre6 enc Try.prog Try.f3 Rows.labelGoodRow.domain false) (Rows.labelGoodSpec.post enc Try.prog Try.f3 false true false false) := by
  refine returnsInHanded_of_change (C := Try.checked) own started (by kernel_rfl) Try.func3
    (ChangeSpec.witness6 (enc := enc) (C := Try.checked) false ⟨#[], #[.agg #[.int .i64 0, .int .i64 0, .int .i64 0, .slice none 0 0, .slice none 0 0]], []⟩ 8 (by kernel_rfl) (by kernel_rfl) (by kernel_rfl) (by kernel_rfl)) ?_
  intro W base args ds gs before hval0 hW hcnd _
  have hval : ∀ (j : Nat) t v, Try.f3.params[j]? = some t → args[j]? = some v → Value.okWide Try.prog W .any base t v := hval0
  have hW' := hW
  have hlt := hW.lt
  obtain ⟨p, q, hA0, hV, rfl, hfz, hnd⟩ := hW
  have hA : DataW.TrodAll enc Try.prog W 0 (fun _ => true) true Try.f3.params.toList args.toList ds p := hA0
  have hAk := hA
  rw [Try.params3] at hA hval
  obtain ⟨v0, vs0, d0, ds0, p0, q0, hargs, rfl, rfl, h0, r0⟩ := trodAll_cons hA
  obtain ⟨rfl, rfl, rfl⟩ := trodAll_nil r0
  obtain rfl : args = #[v0] := by cases args; simp_all
  obtain ⟨rfl, rfl⟩ := trodVars_none hV
  obtain ⟨a0, rfl, w0⟩ := open_raw (hval 0 24 v0 rfl rfl) h0
  clear hA0 hval0
  simp only [List.append_nil] at hW' hAk hlt
  refine (walk W a0 w0).mono fun e W' ⟨he, hg⟩ => ?_
  subst he
  exact ⟨_, rfl, post_kp (pv := []) hW' (fun _ _ _ => (trodAll_cons_mk (shut_bool Try.underlying4 _) trodAll_mk0)) (fun sp hsp => trodAll_stays laidOut (by rw [Try.params3]; exact of_decide_eq_true (by kernel_rfl)) hAk (fun x hx => Below.same hg (hlt x hx)) hsp) (fun _ _ => rfl) (by simp) hg⟩

theorem over : Rows.labelGoodRow.holds Try.pinned (OpenSpec.ofChange Rows.labelGoodSpec) :=
  OpenClaim.holds_of_wide 3 Try.f3 rfl rfl rfl rfl rfl rfl rfl ⟨rfl, rfl, rfl, rfl, rfl⟩ rfl rfl rfl rfl rfl (by kernel_rfl) Try.func3 (by kernel_rfl)
    (of_decide_eq_true (by kernel_rfl)) (by unfold Func.isWrapper; first | (rw [if_pos (by decide +kernel)]; kernel_rfl) | (rw [if_neg (by decide +kernel)]; exact ⟨rfl, rfl⟩))
    (fun os started H enc _ => lifted os started H enc)

end Go.Proofs.Ytobpgfnmhpgkeaa.labelGood
namespace Go.Proofs.Ytobpgfnmhpgkeaa
theorem labelGood_holds : Rows.LabelGoodSaid := labelGood.over
end Go.Proofs.Ytobpgfnmhpgkeaa
