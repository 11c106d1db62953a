/-
  Contracts of marks' Count, Next and Last: how many numbers a set has, the next one, the last one. Condition: that the library's table reads as its text lays it (Next).
-/
import Derived.Test.YtffbachgbcefiaaDoorMkWith
namespace Go.Proofs.YtffbachgbcefiaaDoor
open Go.RowKit Plain
set_option linter.unusedVariables false

theorem idx4 (v : Nat → Nat) (k : Nat) (hk : k < 4) (w : World) : (Instr.index 28 (.agg #[.int .u64 (v 0 : Nat), .int .u64 (v 1 : Nat), .int .u64 (v 2 : Nat), .int .u64 (v 3 : Nat)]) (.int .i64 k)).run Tryd.prog w = .ok (.int .u64 (v k : Nat)) w := by
  have u3 := Tryd.underlying22
  have a3 := Tryd.isAgg22
  have z3 := Tryd.sizeOf22
  have ut := Tryd.underlying28
  have h : k = 0 ∨ k = 1 ∨ k = 2 ∨ k = 3 := by omega
  rcases h with rfl | rfl | rfl | rfl <;> (unfold Instr.index; go_simp)
/-- how many of a word's numbers. -/
def cw (f : Nat → Bool) (k : Nat) : Nat := cn 64 (fun j => f (64 * k + j))
theorem ones_wd (f : Nat → Bool) (k : Nat) (w : World) : Calls Tryd.prog 35 #[.int .u64 (wd f k : Nat)] w fun e w' => e = .returned (.int .i64 (cw f k : Nat)) ∧ w' = w := ones_any _ w
theorem int_val {k : IntKind} {a b : Int} (h : a = b) : Value.int k a = .int k b := by rw [h]
set_option maxRecDepth 100000 in
set_option maxHeartbeats 2000000 in
theorem count_any (f : Nat → Bool) (w : World) : Calls Tryd.prog 17 #[SV f] w fun e w' => e = .returned (.int .i64 (cn 256 f : Nat)) ∧ Kp w w' := by
  have k0 : Kp w (w.alloc (.cells (w4 (wd f)) 28)) := (Kp.refl w).alloc _
  unfold SV
  go_enter Tryd.func17, Tryd.ntmps17
  go_wp2
  go_loopw [3, 7] (fun c i wr => ∃ k : Nat, k ≤ 4 ∧ i = .int .i64 k ∧ c = .int .i64 (cn (64 * k) f : Nat) ∧ wr = w.alloc (.cells (w4 (wd f)) 28)) (fun _ i _ => 4 - (intOf i).toNat)
  case atStart => exact ⟨0, by omega, rfl, rfl, rfl⟩
  case round =>
    obtain ⟨k, hk, rfl, rfl, rfl⟩ := hrel
    have hC := cn_le (64 * k) f
    have HW : Hid (cn (64 * (k + 1)) f = cn (64 * k) f + cw f k) := cn_words f k
    have hL : cw f k ≤ 64 := cn_le 64 _
    obtain ⟨c, hc⟩ : ∃ c, c = cn (64 * k) f := ⟨_, rfl⟩
    rw [← hc] at HW hC ⊢
    by_cases hlt : k < 4
    · clear hc
      have hq : k = 0 ∨ k = 1 ∨ k = 2 ∨ k = 3 := by omega
      rcases hq with rfl | rfl | rfl | rfl
      · have hN := ones_wd f 0
        have hI : ∀ w, (Instr.index 28 (.agg #[.int .u64 (wd f 0 : Nat), .int .u64 (wd f 1 : Nat), .int .u64 (wd f 2 : Nat), .int .u64 (wd f 3 : Nat)]) (.int .i64 0)).run Tryd.prog w = .ok (.int .u64 (wd f 0 : Nat)) w := idx4 (wd f) 0 (by omega)
        go_wp2_with fail
        refine (hN _).mono ?_; rintro e w' ⟨rfl, rfl⟩
        go_wp2
        go_roundw
        case rel => exact ⟨0 + 1, by omega, by go_num, by rw [HW.out]; exact int_val (by omega), trivial⟩
        case measure => simp [intOf]
      · have hN := ones_wd f 1
        have hI : ∀ w, (Instr.index 28 (.agg #[.int .u64 (wd f 0 : Nat), .int .u64 (wd f 1 : Nat), .int .u64 (wd f 2 : Nat), .int .u64 (wd f 3 : Nat)]) (.int .i64 1)).run Tryd.prog w = .ok (.int .u64 (wd f 1 : Nat)) w := idx4 (wd f) 1 (by omega)
        go_wp2_with fail
        refine (hN _).mono ?_; rintro e w' ⟨rfl, rfl⟩
        go_wp2
        go_roundw
        case rel => exact ⟨1 + 1, by omega, by go_num, by rw [HW.out]; exact int_val (by omega), trivial⟩
        case measure => simp [intOf]
      · have hN := ones_wd f 2
        have hI : ∀ w, (Instr.index 28 (.agg #[.int .u64 (wd f 0 : Nat), .int .u64 (wd f 1 : Nat), .int .u64 (wd f 2 : Nat), .int .u64 (wd f 3 : Nat)]) (.int .i64 2)).run Tryd.prog w = .ok (.int .u64 (wd f 2 : Nat)) w := idx4 (wd f) 2 (by omega)
        go_wp2_with fail
        refine (hN _).mono ?_; rintro e w' ⟨rfl, rfl⟩
        go_wp2
        go_roundw
        case rel => exact ⟨2 + 1, by omega, by go_num, by rw [HW.out]; exact int_val (by omega), trivial⟩
        case measure => simp [intOf]
      · have hN := ones_wd f 3
        have hI : ∀ w, (Instr.index 28 (.agg #[.int .u64 (wd f 0 : Nat), .int .u64 (wd f 1 : Nat), .int .u64 (wd f 2 : Nat), .int .u64 (wd f 3 : Nat)]) (.int .i64 3)).run Tryd.prog w = .ok (.int .u64 (wd f 3 : Nat)) w := idx4 (wd f) 3 (by omega)
        go_wp2_with fail
        refine (hN _).mono ?_; rintro e w' ⟨rfl, rfl⟩
        go_wp2
        go_roundw
        case rel => exact ⟨3 + 1, by omega, by go_num, by rw [HW.out]; exact int_val (by omega), trivial⟩
        case measure => simp [intOf]
    · obtain rfl : k = 4 := by omega
      clear HW
      go_wp2
      go_ret
      exact ⟨ret_int (by rw [hc]), k0⟩

/-- where a word's first number stands. -/
def tw (f : Nat → Bool) (k : Nat) : Nat := fs 64 (fun j => f (64 * k + j))
theorem word_none {g : Nat → Bool} {q : Nat} (h : ∀ j, j < 64 * q → g j = false) (h0 : wd g q = 0) : ∀ j, j < 64 * (q + 1) → g j = false := by
  intro j hj
  by_cases e : j < 64 * q
  · exact h j e
  · have := wn_zero_iff 64 _ h0 (j - 64 * q) (by omega)
    rw [show 64 * q + (j - 64 * q) = j by omega] at this
    exact this
theorem word_first {g : Nat → Bool} {q : Nat} (h : ∀ j, j < 64 * q → g j = false) (h0 : wd g q ≠ 0) (hq : q < 4) : fs 256 g = 64 * q + tw g q ∧ tw g q < 64 := by
  have hl : tw g q < 64 := by
    apply Nat.lt_of_not_le
    intro hle
    apply h0
    refine wn_zero 64 _ (fun j hj => ?_)
    exact fs_before 64 (fun j => g (64 * q + j)) j (by unfold tw at hle; omega)
  refine ⟨fs_is 256 g _ (by omega) ?_ ?_, hl⟩
  · exact fs_at 64 (fun j => g (64 * q + j)) hl
  · intro i hi
    by_cases e : i < 64 * q
    · exact h i e
    · have := fs_before 64 (fun j => g (64 * q + j)) (i - 64 * q) (by unfold tw at hi; omega)
      rw [show 64 * q + (i - 64 * q) = i by omega] at this
      exact this
def nx (f : Nat → Bool) (a : Int) : Nat := fs 256 (lessF f (upF a))
def nI (n : Nat) : Int := if n < 256 then (n : Int) else 0
theorem tup_int {a b : Int} {x y : Bool} (h : a = b) (k : x = y) : Ending.returned (.tuple #[.int .i64 a, .bool x]) = .returned (.tuple #[.int .i64 b, .bool y]) := by rw [h, k]

end Go.Proofs.YtffbachgbcefiaaDoor
