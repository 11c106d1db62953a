/-
  Contracts of label's blank and New. No condition but that blank's geometry is good.
-/
import Derived.Test.YtobpgfnmhpgkeaaLbGood
import Derived.Test.YtobpgfnmhpgkeaaLbApp
import Derived.Deep.RegionWith
namespace Go.Proofs.Ytobpgfnmhpgkeaa
open Go.RowKit Plain
set_option linter.unusedVariables false

theorem blank_end (w : World) (o : Obj) (n s ep : Int) (sv mv : Value) (t e1 e2 : TypeId) (N : Nat) (hN : N ≤ 32) :
    Lc ((((w.alloc o).alloc (.cells #[.int .i64 n, .int .i64 s, .int .i64 ep, sv, mv] t)).alloc (.cells (madeCells #[.int .i64 0] N) e1)).alloc (.cells (madeCells #[.int .i64 0] N) e2)).drew (w.heap.size + 1) n s ep sv mv ∧
    Fe e1 ((((w.alloc o).alloc (.cells #[.int .i64 n, .int .i64 s, .int .i64 ep, sv, mv] t)).alloc (.cells (madeCells #[.int .i64 0] N) e1)).alloc (.cells (madeCells #[.int .i64 0] N) e2)).drew w.heap.size (.slice (some ⟨w.heap.size + 1 + 1, 0, none⟩) N N) N (fun _ => 0) ∧
    Fe e2 ((((w.alloc o).alloc (.cells #[.int .i64 n, .int .i64 s, .int .i64 ep, sv, mv] t)).alloc (.cells (madeCells #[.int .i64 0] N) e1)).alloc (.cells (madeCells #[.int .i64 0] N) e2)).drew w.heap.size (.slice (some ⟨w.heap.size + 1 + 1 + 1, 0, none⟩) N N) N (fun _ => 0) ∧
    Kp w ((((w.alloc o).alloc (.cells #[.int .i64 n, .int .i64 s, .int .i64 ep, sv, mv] t)).alloc (.cells (madeCells #[.int .i64 0] N) e1)).alloc (.cells (madeCells #[.int .i64 0] N) e2)).drew := by
  have h1 := Lc.new (w.alloc o) n s ep sv mv t
  have h2 := Fe.made e1 ((w.alloc o).alloc (.cells #[.int .i64 n, .int .i64 s, .int .i64 ep, sv, mv] t)) N (by omega)
  have h3 := Fe.made e2 (((w.alloc o).alloc (.cells #[.int .i64 n, .int .i64 s, .int .i64 ep, sv, mv] t)).alloc (.cells (madeCells #[.int .i64 0] N) e1)) N (by omega)
  simp only [asz] at h1 h2 h3
  refine ⟨h1.kept (((Kp.refl _).alloc _).alloc _).drew, (h2.kept ((Kp.refl _).alloc _).drew).mono (by omega), (h3.kept (Kp.refl _).drew).mono (by omega), ((((Kp.refl w).alloc _).alloc _).alloc _).alloc _ |>.drew⟩
set_option maxRecDepth 100000 in
set_option maxHeartbeats 2000000 in
theorem blank_any (N : Nat) (s : Int) (w : World) (hN : N ≤ 32) : Calls Try.prog 32 #[gV N s] w fun e w' => ∃ b1 b2, e = .returned (lV N s 0 (.slice (some ⟨b1, 0, none⟩) N N) (.slice (some ⟨b2, 0, none⟩) N N)) ∧ b1 ≠ b2 ∧ Fe 67 w' w.heap.size (.slice (some ⟨b1, 0, none⟩) N N) N (fun _ => 0) ∧ Fe 3 w' w.heap.size (.slice (some ⟨b2, 0, none⟩) N N) N (fun _ => 0) ∧ Kp w w' := by
  have hm1 := fun W => run_make_row' (P := Try.prog) 27 67 (.int .i64 0) 8 Try.underlying27 eiS.i rfl .i64 .i64 N (by omega) (by omega) W
  have hm2 := fun W => run_make_row' (P := Try.prog) 22 3 (.int .i64 0) 8 Try.underlying22 eiI.i rfl .i64 .i64 N (by omega) (by omega) W
  unfold gV
  go_enter Try.func32, Try.ntmps32
  go_wp2_with fail
  go_region
  all_goals (go_wp2)
  · obtain ⟨q1, q2, q3, q4⟩ := blank_end w (.cells #[.int .i64 N, .int .i64 s] 26) N s 0 (.slice (some ⟨w.heap.size + 1 + 1, 0, none⟩) N N) (.slice (some ⟨w.heap.size + 1 + 1 + 1, 0, none⟩) N N) 29 67 3 N hN
    refine bodyPost_ret (results_lb rfl _ _ (w.heap.size + 1) rfl q1) rfl ?_
    exact ⟨_, _, rfl, by omega, q2, q3, q4⟩
  · obtain ⟨q1, q2, q3, q4⟩ := blank_end w (.cells #[.int .i64 N, .int .i64 s] 26) N s 0 (.slice (some ⟨w.heap.size + 1 + 1 + 1, 0, none⟩) N N) (.slice (some ⟨w.heap.size + 1 + 1, 0, none⟩) N N) 29 3 67 N hN
    refine bodyPost_ret (results_lb rfl _ _ (w.heap.size + 1) rfl q1) rfl ?_
    exact ⟨_, _, rfl, by omega, q3, q2, q4⟩
set_option maxRecDepth 100000 in
set_option maxHeartbeats 2000000 in
theorem new_any (n s : Int) (w : World) : Calls Try.prog 12 #[gV n s] w fun e w' => ∃ sv mv, e = .returned (.tuple #[if gg n s = true then lV n s 1 sv mv else lV 0 0 0 (.slice none 0 0) (.slice none 0 0), .int .i64 (if gg n s = true then 0 else 4)]) ∧ (gg n s = true → Nl w' sv (List.replicate n.toNat 0) ∧ Nl w' mv (List.replicate n.toNat 0)) ∧ Kp w w' := by
  have hG := good_any n s
  cases e1 : gg n s with
  | false =>
    rw [e1] at hG
    clear e1
    simp only [Bool.false_eq_true, if_false]
    unfold gV at hG ⊢
    go_enter Try.func12, Try.ntmps12
    go_wp2_with fail
    refine (hG _).mono ?_; rintro e w1 ⟨rfl, k1⟩
    have l1 : Lc w1 (w.heap.size + 1) 0 0 0 (.slice none 0 0) (.slice none 0 0) := by
      have := (Lc.new (w.alloc (.cells #[.int .i64 n, .int .i64 s] 26)) 0 0 0 (.slice none 0 0) (.slice none 0 0) 29)
      simp only [asz] at this
      exact this.kept k1
    have z1 : ∀ o, w1.frozen? ⟨w.heap.size + 1, o, none⟩ = false := fun o => (Below.frozen (p := ⟨w.heap.size + 1, o, none⟩) k1 (by simp)).trans (by simp)
    have K1 : Kp w w1 := (((Kp.refl w).alloc _).alloc _).trans k1
    obtain ⟨c0, c1, c2, c3, c4⟩ := l1
    clear hG k1
    go_wp2
    refine bodyPost_ret (results_lb2 rfl _ _ (w.heap.size + 1) rfl rfl (Lc.over ⟨c0, c1, c2, c3, c4⟩)) rfl ?_
    exact ⟨.slice none 0 0, .slice none 0 0, rfl, fun h => absurd h (by simp), ((Trd.refl _ w1).over _ _ _ _ _).kp w K1 (by omega)⟩
  | true =>
    rw [e1] at hG
    obtain ⟨g1, g2, g3, g4⟩ := (gg_iff n s).1 e1
    clear e1
    obtain ⟨N, rfl⟩ : ∃ N : Nat, n = N := ⟨n.toNat, by omega⟩
    simp only [if_true, Int.toNat_natCast]
    have hB := fun w' => blank_any N s w' (by omega)
    unfold gV at hG hB ⊢
    go_enter Try.func12, Try.ntmps12
    go_wp2_with fail
    refine (hG _).mono ?_; rintro e w1 ⟨rfl, k1⟩
    have l1 : Lc w1 (w.heap.size + 1) 0 0 0 (.slice none 0 0) (.slice none 0 0) := by
      have := (Lc.new (w.alloc (.cells #[.int .i64 (N : Int), .int .i64 s] 26)) 0 0 0 (.slice none 0 0) (.slice none 0 0) 29)
      simp only [asz] at this
      exact this.kept k1
    have z1 : ∀ o, w1.frozen? ⟨w.heap.size + 1, o, none⟩ = false := fun o => (Below.frozen (p := ⟨w.heap.size + 1, o, none⟩) k1 (by simp)).trans (by simp)
    have c0 : w1.cell? ⟨w.heap.size, 0, none⟩ = some (.int .i64 (N : Int)) := k1.held (((Kp.refl _).alloc _).held (by simp))
    have c1 : w1.cell? ⟨w.heap.size, 1, none⟩ = some (.int .i64 s) := k1.held (((Kp.refl _).alloc _).held (by simp))
    have K1 : Kp w w1 := (((Kp.refl w).alloc _).alloc _).trans k1
    have hs1 : w.heap.size + 1 < w1.heap.size := World.block_lt_of_cell? _ _ l1.c0
    clear hG k1
    go_wp2_with fail
    refine (hB _).mono ?_; rintro e w2 ⟨b1, b2, rfl, hne, f1, f2, k2⟩
    have l2 := l1.kept k2
    have z2 : ∀ o, w2.frozen? ⟨w.heap.size + 1, o, none⟩ = false := fun o => (Below.frozen (p := ⟨w.heap.size + 1, o, none⟩) k2 hs1).trans (z1 o)
    have K2 : Hid (Kp w w2) := K1.trans k2
    unfold lV
    clear hB l1 z1 c0 c1 K1 k2
    obtain ⟨c0, c1, c2, c3, c4⟩ := l2
    have hs2 : w.heap.size + 1 < w2.heap.size := World.block_lt_of_cell? _ _ c0
    have F1 : Hid (Fe 67 w2 w1.heap.size (.slice (some ⟨b1, 0, none⟩) N N) N (fun _ => 0)) := f1
    have F2 : Hid (Fe 3 w2 w1.heap.size (.slice (some ⟨b2, 0, none⟩) N N) N (fun _ => 0)) := f2
    clear f1 f2
    go_wp2
    have t2 := (Trd.refl (w.heap.size + 1) w2).over N s 1 (.slice (some ⟨b1, 0, none⟩) N N) (.slice (some ⟨b2, 0, none⟩) N N)
    have lo : ∀ {e : TypeId} {b : Nat}, Fe e w2 w1.heap.size (.slice (some ⟨b, 0, none⟩) N N) N (fun _ => 0) → (Value.slice (some ⟨b, 0, none⟩) N N).ownBlock ≠ some (w.heap.size + 1) := fun {e b} h h' => by
      have h1 := (World.ownsRow.lt h b rfl).1
      have h2 : b = w.heap.size + 1 := Option.some.inj h'
      omega
    have n1 := ((t2.fe F1.out (lo F1.out)).kept ((Kp.refl _).alloc (.cells #[.int .i64 (N : Int), .int .i64 s, .int .i64 1, .slice (some ⟨b1, 0, none⟩) N N, .slice (some ⟨b2, 0, none⟩) N N] 29))).nums
    have n2 := ((t2.fe F2.out (lo F2.out)).kept ((Kp.refl _).alloc (.cells #[.int .i64 (N : Int), .int .i64 s, .int .i64 1, .slice (some ⟨b1, 0, none⟩) N N, .slice (some ⟨b2, 0, none⟩) N N] 29))).nums
    have er : (List.range N).map (fun _ => (0 : Int)) = List.replicate N 0 := by rw [List.map_const', List.length_range]
    rw [er] at n1 n2
    refine bodyPost_ret (results_lb2 rfl _ _ (w.heap.size + 1) rfl rfl ((Lc.over (n2 := N) (s2 := s) (ep2 := 1) (sv2 := .slice (some ⟨b1, 0, none⟩) N N) (mv2 := .slice (some ⟨b2, 0, none⟩) N N) ⟨c0, c1, c2, c3, c4⟩).kept ((Kp.refl _).alloc _))) rfl ?_
    exact ⟨_, _, rfl, fun _ => ⟨n1, n2⟩, (t2.kp w K2.out (by omega)).alloc _⟩

end Go.Proofs.Ytobpgfnmhpgkeaa
