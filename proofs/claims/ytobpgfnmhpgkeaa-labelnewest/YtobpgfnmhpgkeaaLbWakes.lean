/-
  The contract of the laws' own wakes: it answers true. No condition.
-/
import Derived.Test.YtobpgfnmhpgkeaaLbGet
import Derived.Test.YtobpgfnmhpgkeaaLbAsk
namespace Go.Proofs.Ytobpgfnmhpgkeaa
open Go.RowKit Plain
set_option linter.unusedVariables false

def L0 : LB := ⟨4, 1, 1, [0, 0, 0, 0], [0, 0, 0, 0]⟩
theorem L0_good : lg L0 = true := by decide +kernel
theorem L0_head : ((ptS L0).extract 0 18).toList == [84, 82, 85, 78, 0, 0, 0, 0, 0, 0, 0, 1, 4, 1, 0, 0, 0, 0] := by decide +kernel
theorem L0_whole : wh L0 3 0 = true := by decide +kernel
set_option maxRecDepth 100000 in
set_option maxHeartbeats 4000000 in
theorem wakes_any (w : World) : Calls Try.prog 14 #[] w fun e w' => e = .returned (.bool true) ∧ Kp w w' := by
  have hN := new_any 4 1 w
  rw [show gg 4 1 = true by decide] at hN
  simp only [if_true] at hN
  have hP := fun w' (sv mv : Value) (h1 : Nl w' sv L0.sts) (h2 : Nl w' mv L0.mks) => put_any L0 sv mv w' h1 h2
  have hps : puS L0 = ptS L0 := if_pos L0_good
  have hpe : puE L0 = 0 := if_pos L0_good
  rw [hps, hpe] at hP
  have hG := fun w' => get_any (ptS L0) (by rw [ptS_size]; omega) w'
  obtain ⟨q1, q2⟩ := gt_pt L0_good
  rw [q1, q2] at hG
  have hW := fun w' (sv mv : Value) (h1 : Nl w' sv L0.sts) (h2 : Nl w' mv L0.mks) => lwhole_any L0 sv mv 3 0 w' h1 h2
  rw [L0_whole] at hW
  have hh := L0_head
  have hz := ptS_size L0
  obtain ⟨P, eP⟩ : ∃ P, P = ptS L0 := ⟨_, rfl⟩
  rw [← eP] at hP hG hh hz
  clear eP q1 q2 hps hpe
  unfold L0 at hP hG hW
  simp only at hP hG hW
  unfold gV lV at *
  go_enter Try.func14, Try.ntmps14
  go_wp2_with fail
  refine hN.mono ?_; rintro e w1 ⟨sv, mv, rfl, hn, k1⟩
  obtain ⟨n1, n2⟩ := hn trivial
  obtain ⟨a1, m1, p1, rfl⟩ := n1.shape
  obtain ⟨a2, m2, p2, rfl⟩ := n2.shape
  have r1 := fun w' (k : Kp w1 w') => hP w' _ _ (n1.kept k) (n2.kept k)
  have K1 : Hid (Kp w w1) := k1
  clear hN hn hP k1 n1 n2
  go_wp2_with fail
  refine (r1 _ ((Kp.refl w1).alloc _)).mono ?_; rintro e w2 ⟨rfl, k2⟩
  have K2 : Hid (Kp w w2) := (K1.out.alloc _).trans k2
  clear r1 k2 K1
  go_wp2_with fail
  refine (hG _).mono ?_; rintro e w3 ⟨sv, mv, rfl, n1, n2, k3⟩
  obtain ⟨a3, m3, p3, rfl⟩ := n1.shape
  obtain ⟨a4, m4, p4, rfl⟩ := n2.shape
  have r2 := fun w' (k : Kp w3 w') => hW w' _ _ (n1.kept k) (n2.kept k)
  have K3 : Hid (Kp w w3) := K2.out.trans k3
  clear hG hW k3 n1 n2 K2
  go_wp2_with fail
  refine (r2 _ ((Kp.refl w3).alloc _)).mono ?_; rintro e w4 ⟨rfl, k4⟩
  have K4 : Hid (Kp w w4) := (K3.out.alloc _).trans k4
  clear r2 k4
  go_wp2
  go_ret
  exact ⟨rfl, K4.out⟩

end Go.Proofs.Ytobpgfnmhpgkeaa
