/-
  Contracts of marks' With, Without and Has: a set with a number, without it, whether it has it. No condition.
-/
import Derived.Test.YtffbachgbcefiaaDoorMkOps
namespace Go.Proofs.YtffbachgbcefiaaDoor
open Go.RowKit Plain
set_option linter.unusedVariables false

set_option maxRecDepth 100000 in
set_option maxHeartbeats 2000000 in
theorem with_any (f : Nat → Bool) (i : Int) (w : World) : Calls Tryd.prog 43 #[SV f, .int .i64 i] w fun e w' => e = .returned (SV (orF f (oneF i))) ∧ Kp w w' := by
  obtain ⟨w0, hw0⟩ : ∃ w0, w0 = (w.alloc (.cells (w4 (wd f)) 28)).alloc (.cells (w4 no4) 28) := ⟨_, rfl⟩
  have a1 : A4 w0 w.heap.size (wd f) := by rw [hw0]; exact (A4.new w _ _).alloc _
  have a2 : A4 w0 (w.heap.size + 1) no4 := by
    have := A4.new (w.alloc (.cells (w4 (wd f)) 28)) no4 28
    rw [hw0]
    simpa using this
  have k0 : Kp w w0 := by rw [hw0]; exact ((Kp.refl w).alloc _).alloc _
  have HW : Hid (w0 = (w.alloc (.cells (w4 (wd f)) 28)).alloc (.cells (w4 no4) 28)) := hw0
  clear hw0
  unfold SV
  go_enter Tryd.func43, Tryd.ntmps43
  go_wp2_with fail
  rw [show (w.alloc (.cells #[.int .u64 ((wd f 0 : Nat) : Int), .int .u64 ((wd f 1 : Nat) : Int), .int .u64 ((wd f 2 : Nat) : Int), .int .u64 ((wd f 3 : Nat) : Int)] 28)).alloc (.cells #[.int .u64 0, .int .u64 0, .int .u64 0, .int .u64 0] 28) = w0 from HW.out.symm]
  clear HW
  obtain ⟨c0, c1, c2, c3⟩ := a1.cells
  obtain ⟨d0, d1, d2, d3⟩ := a2.cells
  have z := a2.z
  have hN := alone_any i w0.drew
  have hO : ∀ W, Calls Tryd.prog 41 #[SV f, SV (oneF i)] W fun e w' => e = .returned (SV (orF f (oneF i))) ∧ Kp W w' := fun W => or_any f (oneF i) W
  have HA : Hid (∀ wa wb, Kp w0.drew wa → Kp wa wb → A4 (put4 wb (w.heap.size + 1) (wd (orF f (oneF i)))) (w.heap.size + 1) (wd (orF f (oneF i))) ∧ Kp w (put4 wb (w.heap.size + 1) (wd (orF f (oneF i))))) := fun wa wb ka kb =>
    ⟨((a2.drew.kept ka).kept kb).put _, ((k0.drew.trans ka).trans kb).put4 (by omega) _⟩
  have HZ : Hid (∀ wa wb, Kp w0.drew wa → Kp wa wb → wb.cell? ⟨w.heap.size + 1, 0, none⟩ = some (.int .u64 0) ∧ wb.cell? ⟨w.heap.size + 1, 1, none⟩ = some (.int .u64 0) ∧ wb.cell? ⟨w.heap.size + 1, 2, none⟩ = some (.int .u64 0) ∧ wb.cell? ⟨w.heap.size + 1, 3, none⟩ = some (.int .u64 0) ∧ ∀ o, wb.frozen? ⟨w.heap.size + 1, o, none⟩ = false) := fun wa wb ka kb => by
    have a3 := (a2.drew.kept ka).kept kb
    obtain ⟨d0, d1, d2, d3⟩ := a3.cells
    exact ⟨d0, d1, d2, d3, a3.z⟩
  unfold SV at hN hO
  clear a1 a2 k0
  go_region_held3 (fun W => W.cell? ⟨w.heap.size, 0, none⟩ = some (.int .u64 (wd f 0 : Nat)) ∧ W.cell? ⟨w.heap.size, 1, none⟩ = some (.int .u64 (wd f 1 : Nat)) ∧ W.cell? ⟨w.heap.size, 2, none⟩ = some (.int .u64 (wd f 2 : Nat)) ∧ W.cell? ⟨w.heap.size, 3, none⟩ = some (.int .u64 (wd f 3 : Nat)))
    (first | go_keep | exact ⟨c0, c1, c2, c3⟩ | exact ⟨ka.held c0, ka.held c1, ka.held c2, ka.held c3⟩ | exact ⟨(ka.trans kb).held c0, (ka.trans kb).held c1, (ka.trans kb).held c2, (ka.trans kb).held c3⟩)
    (first | (go_at_call 46; refine hN.mono ?_; rintro e wa ⟨rfl, ka⟩) | (go_at_call 41; refine (hO _).mono ?_; rintro e wb ⟨rfl, kb⟩; obtain ⟨q0, q1, q2, q3, qz⟩ := HZ.out _ _ ka kb))
  go_wp2
  refine bodyPost_ret (results_set rfl _ _ (w.heap.size + 1) (wd (orF f (oneF i))) rfl (HA.out _ _ ka kb).1) rfl ?_
  exact ⟨rfl, (HA.out _ _ ka kb).2⟩


def hasB (f : Nat → Bool) (i : Int) : Bool := decide (0 ≤ i ∧ i < 256) && f i.toNat
theorem has_is (f : Nat → Bool) (i : Int) : (!emB (andF f (oneF i))) = hasB f i := by
  unfold hasB
  by_cases h : 0 ≤ i ∧ i < 256
  · rw [decide_eq_true h, Bool.true_and]
    cases e : f i.toNat with
    | true =>
      rw [emB_not (f := andF f (oneF i)) i.toNat (by omega) (by unfold andF oneF; rw [e, decide_eq_true (by omega)]; rfl)]; rfl
    | false =>
      rw [emB_of]; · rfl
      intro j hj
      unfold andF oneF
      by_cases hji : (j : Int) = i
      · rw [show j = i.toNat by omega, e]; rfl
      · rw [decide_eq_false hji, Bool.and_false]
  · rw [decide_eq_false h, Bool.false_and, emB_of]; · rfl
    intro j hj
    unfold andF oneF
    rw [decide_eq_false (by omega), Bool.and_false]

end Go.Proofs.YtffbachgbcefiaaDoor
