/-
  Contracts of the laws' own sameLabel (of one label twice), of Whole and Missing and the document's. Conditions: that the labels' lists lie in memory.
-/
import Derived.Test.YtobpgfnmhpgkeaaLbGood
import Derived.Test.YtobpgfnmhpgkeaaGmFind
namespace Go.Proofs.Ytobpgfnmhpgkeaa
open Go.RowKit Plain
set_option linter.unusedVariables false

set_option maxRecDepth 100000 in
set_option maxHeartbeats 4000000 in
theorem same_any (L : LB) (sv mv sv2 mv2 : Value) (w : World) (h1 : Nl w sv L.sts) (h2 : Nl w mv L.mks) (h3 : Nl w sv2 L.sts) (h4 : Nl w mv2 L.mks) : Calls Try.prog 17 #[lV L.n L.s L.ep sv mv, lV L.n L.s L.ep sv2 mv2] w fun e w' => e = .returned (.bool true) ∧ Kp w w' := by
  obtain ⟨a1, g1, o1, p1, rfl, A1⟩ := h1
  obtain ⟨a2, g2, o2, p2, rfl, A2⟩ := h2
  obtain ⟨a3, g3, o3, p3, rfl, A3⟩ := h3
  obtain ⟨a4, g4, o4, p4, rfl, A4⟩ := h4
  obtain ⟨n, s, ep, sts, mks⟩ := L
  simp only at *
  obtain ⟨N1, hN1⟩ : ∃ N, N = sts.length := ⟨_, rfl⟩
  obtain ⟨N2, hN2⟩ : ∃ N, N = mks.length := ⟨_, rfl⟩
  have i1 := A1.ha
  have i2 := A2.ha
  have i3 := A3.ha
  have i4 := A4.ha
  have m1 : N1 ≤ 9223372036854775807 := by have := A1.le; have := A1.mx; omega
  have m2 : N2 ≤ 9223372036854775807 := by have := A2.le; have := A2.mx; omega
  rw [← hN1] at i1 i3 ⊢
  rw [← hN2] at i2 i4 ⊢
  have HA1 : Hid (∀ j, j < N1 → w.cell? ⟨g1, o1 + j, none⟩ = some (.int .i64 (sts.getD j 0))) := fun j hj => A1.c j (by omega)
  have HA2 : Hid (∀ j, j < N2 → w.cell? ⟨g2, o2 + j, none⟩ = some (.int .i64 (mks.getD j 0))) := fun j hj => A2.c j (by omega)
  have HA3 : Hid (∀ j, j < N1 → w.cell? ⟨g3, o3 + j, none⟩ = some (.int .i64 (sts.getD j 0))) := fun j hj => A3.c j (by omega)
  have HA4 : Hid (∀ j, j < N2 → w.cell? ⟨g4, o4 + j, none⟩ = some (.int .i64 (mks.getD j 0))) := fun j hj => A4.c j (by omega)
  have l1 := (Lc.new w n s ep (.slice a1 N1 p1) (.slice a2 N2 p2) 29).kept ((Kp.refl _).alloc (.cells #[.int .i64 n, .int .i64 s, .int .i64 ep, .slice a3 N1 p3, .slice a4 N2 p4] 32))
  have l2 := Lc.new (w.alloc (.cells #[.int .i64 n, .int .i64 s, .int .i64 ep, .slice a1 N1 p1, .slice a2 N2 p2] 29)) n s ep (.slice a3 N1 p3) (.slice a4 N2 p4) 32
  have hz : (w.alloc (.cells #[.int .i64 n, .int .i64 s, .int .i64 ep, .slice a1 N1 p1, .slice a2 N2 p2] 29)).heap.size = w.heap.size + 1 := by simp
  rw [hz] at l2
  have K0 : Kp w ((w.alloc (.cells #[.int .i64 n, .int .i64 s, .int .i64 ep, .slice a1 N1 p1, .slice a2 N2 p2] 29)).alloc (.cells #[.int .i64 n, .int .i64 s, .int .i64 ep, .slice a3 N1 p3, .slice a4 N2 p4] 32)) := ((Kp.refl w).alloc _).alloc _
  obtain ⟨W, hW⟩ : ∃ W, W = (w.alloc (.cells #[.int .i64 n, .int .i64 s, .int .i64 ep, .slice a1 N1 p1, .slice a2 N2 p2] 29)).alloc (.cells #[.int .i64 n, .int .i64 s, .int .i64 ep, .slice a3 N1 p3, .slice a4 N2 p4] 32) := ⟨_, rfl⟩
  have HW : Hid (W = (w.alloc (.cells #[.int .i64 n, .int .i64 s, .int .i64 ep, .slice a1 N1 p1, .slice a2 N2 p2] 29)).alloc (.cells #[.int .i64 n, .int .i64 s, .int .i64 ep, .slice a3 N1 p3, .slice a4 N2 p4] 32)) := hW
  rw [← hW] at l1 l2 K0
  have HL1 : Hid (∀ V, Kp W V → Lc V w.heap.size n s ep (.slice a1 N1 p1) (.slice a2 N2 p2) ∧ Lc V (w.heap.size + 1) n s ep (.slice a3 N1 p3) (.slice a4 N2 p4)) := fun V k => ⟨l1.kept k, l2.kept k⟩
  have K0h : Hid (Kp w W) := K0
  clear A1 A2 A3 A4 hN1 hN2 l1 l2 hz K0 hW
  unfold lV
  go_enter Try.func17, Try.ntmps17
  go_wp2
  rw [← HW.out]
  clear HW
  go_loopw [40] (fun i wr => ∃ k : Nat, k ≤ N1 ∧ i = .int .i64 k ∧ Kp W wr) (fun i _ => N1 - (intOf i).toNat)
  case atStart => exact ⟨0, Nat.zero_le _, rfl, Kp.refl W⟩
  case round =>
    obtain ⟨k, hk, rfl, hK⟩ := hrel
    obtain ⟨⟨c0, c1, c2, c3, c4⟩, ⟨d0, d1, d2, d3, d4⟩⟩ := HL1.out _ hK
    by_cases hlt : k < N1
    · obtain rfl := i1 (by omega)
      obtain rfl := i3 (by omega)
      have e1 := (K0h.out.trans hK).held (HA1.out k hlt)
      have e3 := (K0h.out.trans hK).held (HA3.out k hlt)
      obtain ⟨x, hx⟩ : ∃ x, x = sts.getD k 0 := ⟨_, rfl⟩
      rw [← hx] at e1 e3
      clear hx
      go_wp2_with fail
      go_quiet (fail)
      go_wp2
      go_roundw
      case rel => exact ⟨k + 1, by omega, by go_num, hK.drewN _⟩
      case measure => simp [intOf]; omega
    · obtain rfl : N1 = k := by omega
      go_wp2
      clear c0 c1 c2 c3 c4 d0 d1 d2 d3 d4
      go_loopw [58] (fun i wr => ∃ k : Nat, k ≤ N2 ∧ i = .int .i64 k ∧ Kp W wr) (fun i _ => N2 - (intOf i).toNat)
      case atStart => exact ⟨0, Nat.zero_le _, rfl, hK⟩
      case round =>
        clear hK
        obtain ⟨k, hk, rfl, hK⟩ := hrel
        obtain ⟨⟨c0, c1, c2, c3, c4⟩, ⟨d0, d1, d2, d3, d4⟩⟩ := HL1.out _ hK
        by_cases hlt : k < N2
        · obtain rfl := i2 (by omega)
          obtain rfl := i4 (by omega)
          have e1 := (K0h.out.trans hK).held (HA2.out k hlt)
          have e3 := (K0h.out.trans hK).held (HA4.out k hlt)
          obtain ⟨x, hx⟩ : ∃ x, x = mks.getD k 0 := ⟨_, rfl⟩
          rw [← hx] at e1 e3
          clear hx
          go_wp2_with fail
          go_quiet (fail)
          go_wp2
          go_roundw
          case rel => exact ⟨k + 1, by omega, by go_num, hK.drewN _⟩
          case measure => simp [intOf]; omega
        · have KF : Hid (Kp w wr) := K0h.out.trans hK
          obtain rfl : N2 = k := by omega
          go_wp2
          go_ret
          exact ⟨rfl, KF.out⟩

end Go.Proofs.Ytobpgfnmhpgkeaa
