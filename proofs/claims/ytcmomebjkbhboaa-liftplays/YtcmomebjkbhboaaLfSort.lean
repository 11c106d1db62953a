/-
  Contract of slices.Sort at numbers. Condition: that the row is the call's own.
-/
import Derived.Test.YtcmomebjkbhboaaLfBs
import Derived.Test.YtcmomebjkbhboaaLfShelf
import Derived.Shelf.Slices.Turned
import Derived.Shelf.Slices.Cells
import Derived.Lib.SlKeysI
namespace Go.Proofs.Ytcmomebjkbhboaa
open Go.RowKit Plain Go.Shelf Go.Sort
set_option linter.unusedVariables false

set_option maxHeartbeats 1000000 in
theorem sort_any (base : Nat) (v : Value) (l : List Int) (hl : l.length ≤ 1000) (w : World) (h : OwnI w base v l) : Calls Try.prog 27 #[v] w fun e w' => e = .returned (.tuple #[]) ∧ OwnI w' base v (l.mergeSort fun x y => decide (x ≤ y)) ∧ Sp v.ownBlock.toList w w' := by
  rcases h.2 with ⟨rfl, hz⟩ | ⟨gb, cap', cur, rfl, hbase, hgb, r1, r2, r3, r4⟩
  · obtain rfl : l = [] := List.eq_nil_of_length_eq_zero hz
    refine (Try.slices_Sort_int_none none 0 w).mono ?_
    rintro e w' ⟨rfl, rfl⟩
    exact ⟨rfl, by rw [List.mergeSort_nil]; exact h, Sp.refl _ _⟩
  · have hH : Holds (Value.int .i64) w gb 0 l.toArray := holds_of_block_i hgb (by rw [Nat.mul_one] at r4; exact r4)
    refine (Try.slices_Sort_int gb 0 cap' l w hH (Array.getElem?_eq_some_iff.1 hgb).1 (by omega)).mono ?_
    rintro e w' ⟨rfl, n, os, rfl⟩
    refine ⟨rfl, ?_, ?_⟩
    · unfold OwnI
      rw [List.length_mergeSort]
      exact ownsRow_sorted_i (by simp) hbase hgb r1 r2 r3
    · exact grown_sp (grownBy_sorted_i _)
theorem OwnI.sp {w w' : World} {base : Nat} {v : Value} {l : List Int} {T : List Nat} (h : OwnI w base v l) (k : Sp T w w') (hT : ∀ g, v.ownBlock = some g → g ∉ T) : OwnI w' base v l := k.own h hT

end Go.Proofs.Ytcmomebjkbhboaa
