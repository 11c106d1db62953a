/-
  The contract of the laws' own sameLabel, of one label twice. Conditions: that the labels' lists lie in memory.
-/
import Derived.Test.YtinpkfdmellleaaGreatZBdPair
import Derived.Test.YtinpkfdmellleaaGreatZGm
namespace Go.Proofs.YtinpkfdmellleaaGreat
open Go.RowKit Plain
set_option linter.unusedVariables false

set_option maxRecDepth 100000 in
set_option maxHeartbeats 4000000 in
theorem same_label (L : LB) (sv mv sv2 mv2 : Value) (w : World) (h1 : Nl w sv L.sts) (h2 : Nl w mv L.mks) (h3 : Nl w sv2 L.sts) (h4 : Nl w mv2 L.mks) (hlen : L.sts.length = L.mks.length) : Calls Tryz.prog 23 #[lV L.n L.s L.ep sv mv, lV L.n L.s L.ep sv2 mv2] w fun e w' => e = .returned (.bool true) ∧ Kp w w' := by
  obtain ⟨a1, g1, o1, p1, rfl, A1⟩ := h1
  obtain ⟨a2, g2, o2, p2, rfl, A2⟩ := h2
  obtain ⟨a3, g3, o3, p3, rfl, A3⟩ := h3
  obtain ⟨a4, g4, o4, p4, rfl, A4⟩ := h4
  obtain ⟨n, s, ep, sts, mks⟩ := L
  simp only at *
  obtain ⟨N1, hN1⟩ : ∃ N, N = sts.length := ⟨_, rfl⟩
  obtain ⟨N2, hN2⟩ : ∃ N, N = mks.length := ⟨_, rfl⟩
  have i1 := A1.ha
  have i2 := A2.ha
  have i3 := A3.ha
  have i4 := A4.ha
  have m1 : N1 ≤ 9223372036854775807 := by have := A1.le; have := A1.mx; omega
  have m2 : N2 ≤ 9223372036854775807 := by have := A2.le; have := A2.mx; omega
  rw [← hN1] at i1 i3 ⊢
  rw [← hN2] at i2 i4 ⊢
  have HA1 : Hid (∀ j, j < N1 → w.cell? ⟨g1, o1 + j, none⟩ = some (.int .i64 (sts.getD j 0))) := fun j hj => A1.c j (by omega)
  have HA2 : Hid (∀ j, j < N2 → w.cell? ⟨g2, o2 + j, none⟩ = some (.int .i64 (mks.getD j 0))) := fun j hj => A2.c j (by omega)
  have HA3 : Hid (∀ j, j < N1 → w.cell? ⟨g3, o3 + j, none⟩ = some (.int .i64 (sts.getD j 0))) := fun j hj => A3.c j (by omega)
  have HA4 : Hid (∀ j, j < N2 → w.cell? ⟨g4, o4 + j, none⟩ = some (.int .i64 (mks.getD j 0))) := fun j hj => A4.c j (by omega)
  have l1 := (Lc.new w n s ep (.slice a1 N1 p1) (.slice a2 N2 p2) 63).kept ((Kp.refl _).alloc (.cells #[.int .i64 n, .int .i64 s, .int .i64 ep, .slice a3 N1 p3, .slice a4 N2 p4] 66))
  have l2 := Lc.new (w.alloc (.cells #[.int .i64 n, .int .i64 s, .int .i64 ep, .slice a1 N1 p1, .slice a2 N2 p2] 63)) n s ep (.slice a3 N1 p3) (.slice a4 N2 p4) 66
  have hz : (w.alloc (.cells #[.int .i64 n, .int .i64 s, .int .i64 ep, .slice a1 N1 p1, .slice a2 N2 p2] 63)).heap.size = w.heap.size + 1 := by simp
  rw [hz] at l2
  have K0 : Kp w ((w.alloc (.cells #[.int .i64 n, .int .i64 s, .int .i64 ep, .slice a1 N1 p1, .slice a2 N2 p2] 63)).alloc (.cells #[.int .i64 n, .int .i64 s, .int .i64 ep, .slice a3 N1 p3, .slice a4 N2 p4] 66)) := ((Kp.refl w).alloc _).alloc _
  obtain ⟨W, hW⟩ : ∃ W, W = (w.alloc (.cells #[.int .i64 n, .int .i64 s, .int .i64 ep, .slice a1 N1 p1, .slice a2 N2 p2] 63)).alloc (.cells #[.int .i64 n, .int .i64 s, .int .i64 ep, .slice a3 N1 p3, .slice a4 N2 p4] 66) := ⟨_, rfl⟩
  have HW : Hid (W = (w.alloc (.cells #[.int .i64 n, .int .i64 s, .int .i64 ep, .slice a1 N1 p1, .slice a2 N2 p2] 63)).alloc (.cells #[.int .i64 n, .int .i64 s, .int .i64 ep, .slice a3 N1 p3, .slice a4 N2 p4] 66)) := hW
  rw [← hW] at l1 l2 K0
  have HL1 : Hid (∀ V, Kp W V → Lc V w.heap.size n s ep (.slice a1 N1 p1) (.slice a2 N2 p2) ∧ Lc V (w.heap.size + 1) n s ep (.slice a3 N1 p3) (.slice a4 N2 p4)) := fun V k => ⟨l1.kept k, l2.kept k⟩
  have K0h : Hid (Kp w W) := K0
  have hNN : N1 = N2 := by omega
  subst hNN
  clear A1 A2 A3 A4 hN1 hN2 l1 l2 hz K0 hW hlen
  unfold lV
  go_enter Tryz.func23, Tryz.ntmps23
  go_wp2
  rw [← HW.out]
  clear HW
  go_loopw [39] (fun i wr => ∃ k : Nat, k ≤ N1 ∧ i = .int .i64 k ∧ Hid (Kp W wr)) (fun i _ => N1 - (intOf i).toNat)
  case atStart => exact ⟨0, Nat.zero_le _, by go_num, Kp.refl W⟩
  case round =>
    obtain ⟨k, hk, rfl, hK⟩ := hrel
    by_cases hlt : k < N1
    · obtain ⟨⟨c0, c1, c2, c3, c4⟩, ⟨d0, d1, d2, d3, d4⟩⟩ := HL1.out _ hK.out
      obtain rfl := i1 (by omega)
      obtain rfl := i2 (by omega)
      obtain rfl := i3 (by omega)
      obtain rfl := i4 (by omega)
      have e1 := (K0h.out.trans hK.out).held (HA1.out k hlt)
      have e2 := (K0h.out.trans hK.out).held (HA2.out k hlt)
      have e3 := (K0h.out.trans hK.out).held (HA3.out k hlt)
      have e4 := (K0h.out.trans hK.out).held (HA4.out k hlt)
      obtain ⟨x, hx⟩ : ∃ x, x = sts.getD k 0 := ⟨_, rfl⟩
      obtain ⟨z, hz⟩ : ∃ z, z = mks.getD k 0 := ⟨_, rfl⟩
      rw [← hx] at e1 e3
      rw [← hz] at e2 e4
      have y1 := kpw_cell e1
      have y2 := kpw_cell e2
      have y3 := kpw_cell e3
      have y4 := kpw_cell e4
      have y5 := kpw_cell c3
      have y6 := kpw_cell c4
      have y7 := kpw_cell d3
      have y8 := kpw_cell d4
      clear hx hz
      go_wp2_with fail
      refine wp_region_kp (by kernel_rfl) (by kernel_rfl) ?_
      repeat (first
        | go_big_quiet_skip
        | (go_big_quiet_want; go_big_quiet_op; go_big_quiet_on))
      refine wpQuiet_nil ?_
      rintro w8 ⟨p, hp8⟩
      have HK8 : Hid (Kp W w8) := by show Kp W w8; rw [hp8]; exact hK.out.trans (kpw_kp _ p)
      clear hp8 y1 y2 y3 y4 y5 y6 y7 y8 e1 e2 e3 e4 c0 c1 c2 c3 c4 d0 d1 d2 d3 d4
      go_wp2
      go_roundw
      case rel => exact ⟨k + 1, by omega, by go_num, HK8⟩
      case measure => simp [intOf]; omega
    · have KF : Hid (Kp w wr) := K0h.out.trans hK.out
      go_wp2
      go_ret
      exact ⟨rfl, KF.out⟩

end Go.Proofs.YtinpkfdmellleaaGreat
