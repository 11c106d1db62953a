/-
  Contracts of a nil queue's calls. No condition.
-/
import Derived.Test.YtdfdoinhkjoalaaQuWakes
namespace Go.Proofs.Ytdfdoinhkjoalaa
open Go.RowKit Plain
set_option linter.unusedVariables false

set_option maxRecDepth 100000 in
theorem nfind (b : Int) (w : World) : Calls Try.prog 28 #[.pointer none, .int .i64 b] w fun e w' => e = .returned (.tuple #[.int .i64 0, .bool false]) ∧ Kp w w' := by
  go_enter Try.func28, Try.ntmps28
  go_wp2
  go_ret2
  exact ⟨rfl, ((Kp.refl w).alloc _).alloc _⟩
set_option maxRecDepth 100000 in
theorem nput (b : Int) (d : ByteArray) (w : World) : Calls Try.prog 13 #[.pointer none, .int .i64 b, .string d] w fun e w' => e = .returned (.int .i64 1) ∧ Kp w w' := by
  go_enter Try.func13, Try.ntmps13
  go_wp2
  go_ret
  exact ⟨rfl, Kp.refl w⟩
set_option maxRecDepth 100000 in
theorem nget (b : Int) (w : World) : Calls Try.prog 16 #[.pointer none, .int .i64 b] w fun e w' => e = .returned (.tuple #[.string noS, .bool false]) ∧ Kp w w' := by
  go_enter Try.func16, Try.ntmps16
  go_wp2_with fail
  refine (nfind b w).mono ?_; rintro e w1 ⟨rfl, k1⟩
  go_wp2
  go_ret2
  exact ⟨rfl, k1⟩
theorem new_box (w : World) (p q r : Value) (t : TypeId) : (w.alloc (.cells #[p, q, r] t)).heap[w.heap.size]? = some (.cells #[p, q, r] t (0, 0)) := by unfold World.alloc; exact Array.getElem?_push_size
set_option maxRecDepth 100000 in
theorem ntake (b : Int) (w : World) : Calls Try.prog 11 #[.pointer none, .int .i64 b] w fun e w' => e = .returned (.tuple #[itV iz, .bool false]) ∧ Kp w w' := by
  have r0 := new_box w (.int .i64 0) (.string ⟨#[]⟩) (.int .i64 0) 31
  have R0 : Hid _ := r0
  clear r0
  go_enter Try.func11, Try.ntmps11
  go_wp2_with fail
  refine (nfind b _).mono ?_; rintro e w1 ⟨rfl, k1⟩
  have r1 := (k1.block w.heap.size (heap_lt R0.out)).trans R0.out
  have z0 : w1.cell? ⟨w.heap.size, 0, none⟩ = some (.int .i64 0) := cell_of r1 0
  have z1 : w1.cell? ⟨w.heap.size, 1, none⟩ = some (.string ⟨#[]⟩) := cell_of r1 1
  have z2 : w1.cell? ⟨w.heap.size, 2, none⟩ = some (.int .i64 0) := cell_of r1 2
  have ff := frozen_of r1
  have f0 := ff 0
  have f1 := ff 1
  have f2 := ff 2
  have HR : Hid (Kp w w1 ∧ w1.heap[w.heap.size]? = some (.cells #[.int .i64 0, .string ⟨#[]⟩, .int .i64 0] 31 (0, 0))) := ⟨((Kp.refl w).alloc _).trans k1, r1⟩
  clear R0 k1 r1 ff
  go_wp2
  obtain ⟨b1, b2⟩ := box3 HR.out.2 (.int .i64 0) (.string ⟨#[]⟩) (.int .i64 0)
  refine bodyPost_ret (results_it2 rfl _ _ w.heap.size iz (.bool false) rfl rfl (cell_of b1 0) (cell_of b1 1) (cell_of b1 2)) rfl ?_
  exact ⟨rfl, Sp.kp HR.out.1 b2 (fun t ht => by simp at ht; omega)⟩
set_option maxRecDepth 100000 in
theorem nlen (w : World) : Calls Try.prog 22 #[.pointer none] w fun e w' => e = .returned (.int .i64 0) ∧ Kp w w' := by
  go_enter Try.func22, Try.ntmps22
  go_wp2
  go_ret
  exact ⟨rfl, Kp.refl w⟩
set_option maxRecDepth 100000 in
theorem nold (w : World) : Calls Try.prog 24 #[.pointer none] w fun e w' => e = .returned (.tuple #[itV iz, .bool false]) ∧ Kp w w' := by
  have r0 := new_box w (.int .i64 0) (.string ⟨#[]⟩) (.int .i64 0) 31
  have R0 : Hid _ := r0
  clear r0
  go_enter Try.func24, Try.ntmps24
  go_wp2_with fail
  refine (nlen _).mono ?_; rintro e w1 ⟨rfl, k1⟩
  have r1 := (k1.block w.heap.size (heap_lt R0.out)).trans R0.out
  have z0 : w1.cell? ⟨w.heap.size, 0, none⟩ = some (.int .i64 0) := cell_of r1 0
  have z1 : w1.cell? ⟨w.heap.size, 1, none⟩ = some (.string ⟨#[]⟩) := cell_of r1 1
  have z2 : w1.cell? ⟨w.heap.size, 2, none⟩ = some (.int .i64 0) := cell_of r1 2
  have ff := frozen_of r1
  have f0 := ff 0
  have f1 := ff 1
  have f2 := ff 2
  have HR : Hid (Kp w w1 ∧ w1.heap[w.heap.size]? = some (.cells #[.int .i64 0, .string ⟨#[]⟩, .int .i64 0] 31 (0, 0))) := ⟨((Kp.refl w).alloc _).trans k1, r1⟩
  clear R0 k1 r1 ff
  go_wp2
  obtain ⟨b1, b2⟩ := box3 HR.out.2 (.int .i64 0) (.string ⟨#[]⟩) (.int .i64 0)
  refine bodyPost_ret (results_it2 rfl _ _ w.heap.size iz (.bool false) rfl rfl (cell_of b1 0) (cell_of b1 1) (cell_of b1 2)) rfl ?_
  exact ⟨rfl, Sp.kp HR.out.1 b2 (fun t ht => by simp at ht; omega)⟩
set_option maxRecDepth 100000 in
theorem nfull (w : World) : Calls Try.prog 25 #[.pointer none] w fun e w' => e = .returned (.bool true) ∧ Kp w w' := by
  go_enter Try.func25, Try.ntmps25
  go_wp2_with fail
  go_quiet (fail)
  go_wp2
  go_ret
  exact ⟨rfl, (Kp.refl w).drewN _⟩
set_option maxRecDepth 100000 in
theorem nitems (w : World) : Calls Try.prog 26 #[.pointer none] w fun e w' => e = .returned (.slice none 0 0) ∧ Kp w w' := by
  go_enter Try.func26, Try.ntmps26
  go_wp2
  go_ret
  exact ⟨rfl, Kp.refl w⟩
set_option maxRecDepth 100000 in
theorem nclock (w : World) : Calls Try.prog 27 #[.pointer none] w fun e w' => e = .returned (.int .i64 0) ∧ Kp w w' := by
  go_enter Try.func27, Try.ntmps27
  go_wp2
  go_ret
  exact ⟨rfl, Kp.refl w⟩
set_option maxRecDepth 100000 in
theorem nspans (w : World) : Calls Try.prog 19 #[.pointer none] w fun e w' => e = .returned (.slice none 0 0) ∧ Kp w w' := by
  go_enter Try.func19, Try.ntmps19
  go_wp2_with fail
  refine (nitems w).mono ?_; rintro e w1 ⟨rfl, k1⟩
  go_wp2
  go_loopw [9, 3] (fun i q wr => i = .int .i64 0 ∧ q = .slice none 0 0 ∧ Kp w wr) (fun _ _ _ => 0)
  case atStart => exact ⟨rfl, rfl, k1⟩
  case round =>
    obtain ⟨rfl, rfl, kr⟩ := hrel
    go_wp2
    go_ret
    exact ⟨rfl, kr⟩

end Go.Proofs.Ytdfdoinhkjoalaa
