/-
  Contracts of marks' Count, Next and Last: how many numbers a set has, the next one, the last one. Condition: that the library's table reads as its text lays it (Next).
-/
import Derived.Test.YtncdidklgpmefaaMkWith
namespace Go.Proofs.Ytncdidklgpmefaa
open Go.RowKit Plain
set_option linter.unusedVariables false

theorem idx4 (v : Nat → Nat) (k : Nat) (hk : k < 4) (w : World) : (Instr.index 52 (.agg #[.int .u64 (v 0 : Nat), .int .u64 (v 1 : Nat), .int .u64 (v 2 : Nat), .int .u64 (v 3 : Nat)]) (.int .i64 k)).run Try.prog w = .ok (.int .u64 (v k : Nat)) w := by
  have u3 := Try.underlying50
  have a3 := Try.isAgg50
  have z3 := Try.sizeOf50
  have ut := Try.underlying52
  have h : k = 0 ∨ k = 1 ∨ k = 2 ∨ k = 3 := by omega
  rcases h with rfl | rfl | rfl | rfl <;> (unfold Instr.index; go_simp)
/-- how many of a word's numbers. -/
def cw (f : Nat → Bool) (k : Nat) : Nat := cn 64 (fun j => f (64 * k + j))
theorem int_val {k : IntKind} {a b : Int} (h : a = b) : Value.int k a = .int k b := by rw [h]

/-- where a word's first number stands. -/
def tw (f : Nat → Bool) (k : Nat) : Nat := fs 64 (fun j => f (64 * k + j))
theorem word_none {g : Nat → Bool} {q : Nat} (h : ∀ j, j < 64 * q → g j = false) (h0 : wd g q = 0) : ∀ j, j < 64 * (q + 1) → g j = false := by
  intro j hj
  by_cases e : j < 64 * q
  · exact h j e
  · have := wn_zero_iff 64 _ h0 (j - 64 * q) (by omega)
    rw [show 64 * q + (j - 64 * q) = j by omega] at this
    exact this
theorem word_first {g : Nat → Bool} {q : Nat} (h : ∀ j, j < 64 * q → g j = false) (h0 : wd g q ≠ 0) (hq : q < 4) : fs 256 g = 64 * q + tw g q ∧ tw g q < 64 := by
  have hl : tw g q < 64 := by
    apply Nat.lt_of_not_le
    intro hle
    apply h0
    refine wn_zero 64 _ (fun j hj => ?_)
    exact fs_before 64 (fun j => g (64 * q + j)) j (by unfold tw at hle; omega)
  refine ⟨fs_is 256 g _ (by omega) ?_ ?_, hl⟩
  · exact fs_at 64 (fun j => g (64 * q + j)) hl
  · intro i hi
    by_cases e : i < 64 * q
    · exact h i e
    · have := fs_before 64 (fun j => g (64 * q + j)) (i - 64 * q) (by unfold tw at hi; omega)
      rw [show 64 * q + (i - 64 * q) = i by omega] at this
      exact this
def nx (f : Nat → Bool) (a : Int) : Nat := fs 256 (lessF f (upF a))
def nI (n : Nat) : Int := if n < 256 then (n : Int) else 0
theorem tup_int {a b : Int} {x y : Bool} (h : a = b) (k : x = y) : Ending.returned (.tuple #[.int .i64 a, .bool x]) = .returned (.tuple #[.int .i64 b, .bool y]) := by rw [h, k]

end Go.Proofs.Ytncdidklgpmefaa
