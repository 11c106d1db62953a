/-
  The document's Has, and arrays of 256 truths in memory; contracts of its Words and Numbers: the words of the numbers that are set, and back. No condition.
-/
import Derived.Test.YtekbhgcnobiplaaDoorMkWith
import Derived.Laws.Tables
import Derived.Laws.Rows
import Derived.Deep.WholeRow
import Derived.Deep.DeepCutAuto
namespace Go.Proofs.YtekbhgcnobiplaaDoor
open Go.RowKit Plain
set_option linter.unusedVariables false

theorem int_val' {k : IntKind} {a b : Int} (h : a = b) : Value.int k a = .int k b := by rw [h]
theorem ret_bool {a b : Bool} (h : a = b) : Ending.returned (.bool a) = .returned (.bool b) := by rw [h]
theorem bit_at (f : Nat → Bool) (n : Nat) : (wd f (n / 64) / 2 ^ (n % 64) % 2 == 1) = f n := by
  have h := wn_bit 64 (fun j => f (64 * (n / 64) + j)) (n % 64)
  rw [decide_eq_true (by omega), Bool.true_and, show 64 * (n / 64) + n % 64 = n by omega, Nat.testBit_eq_decide_div_mod_eq] at h
  rw [← h, Bool.eq_iff_iff, beq_iff_eq, decide_eq_true_eq]
  rfl
set_option maxRecDepth 100000 in
set_option maxHeartbeats 1000000 in
theorem rhas_out (f : Nat → Bool) (i : Int) (hi : ¬ (0 ≤ i ∧ i < 256)) (w : World) : Calls Tryd.prog 11 #[SV f, .int .i64 i] w fun e w' => e = .returned (.bool false) ∧ Kp w w' := by
  have k0 : Kp w (w.alloc (.cells (w4 (wd f)) 24)) := (Kp.refl w).alloc _
  unfold SV
  by_cases h0 : 0 ≤ i
  · have h1 : 255 < i := by omega
    clear hi
    go_enter Tryd.func11, Tryd.ntmps11
    go_wp2
    go_ret
    exact ⟨rfl, k0⟩
  · have h1 : i < 0 := by omega
    clear hi h0
    go_enter Tryd.func11, Tryd.ntmps11
    go_wp2
    go_ret
    exact ⟨rfl, k0⟩
set_option maxRecDepth 100000 in
set_option maxHeartbeats 2000000 in
theorem rhas_in (f : Nat → Bool) (n : Nat) (hn : n < 256) (w : World) : Calls Tryd.prog 11 #[SV f, .int .i64 n] w fun e w' => e = .returned (.bool (f n)) ∧ Kp w w' := by
  have HB : Hid ((wd f (n / 64) / 2 ^ (n % 64) % 2 == 1) = f n) := bit_at f n
  obtain ⟨w0, hw0⟩ : ∃ w0, w0 = w.alloc (.cells (w4 (wd f)) 24) := ⟨_, rfl⟩
  have a1 : A4 w0 w.heap.size (wd f) := by rw [hw0]; exact A4.new w _ _
  have k0 : Kp w w0 := by rw [hw0]; exact (Kp.refl w).alloc _
  have c := a1.c (n / 64) (by omega)
  have hX := wd_lt f (n / 64)
  obtain ⟨X, hXe⟩ : ∃ X, X = wd f (n / 64) := ⟨_, rfl⟩
  rw [← hXe] at c hX HB
  have HW : Hid (w0 = w.alloc (.cells (w4 (wd f)) 24)) := hw0
  clear hw0 a1 hXe
  obtain ⟨r, hr⟩ : ∃ r, r = n % 64 := ⟨_, rfl⟩
  rw [← hr] at HB
  have r1 : (n : Int) % 64 = (r : Int) := by omega
  have hr64 : r < 64 := by omega
  clear hr
  unfold SV
  go_enter Tryd.func11, Tryd.ntmps11
  go_upto_region 3 with fail
  rw [show w.alloc (.cells #[.int .u64 ((wd f 0 : Nat) : Int), .int .u64 ((wd f 1 : Nat) : Int), .int .u64 ((wd f 2 : Nat) : Int), .int .u64 ((wd f 3 : Nat) : Int)] 24) = w0 from HW.out.symm]
  clear HW
  go_wp2
  go_loopw [5, 6] (fun x i wr => ∃ k : Nat, k ≤ r ∧ i = .int .i64 k ∧ x = .int .u64 ((X / 2 ^ k : Nat) : Int) ∧ wr = w0) (fun _ i _ => r - (intOf i).toNat)
  case atStart => exact ⟨0, by omega, rfl, by rw [Nat.pow_zero, Nat.div_one], rfl⟩
  case round =>
    obtain ⟨k, hk, rfl, rfl, rfl⟩ := hrel
    have hle : X / 2 ^ k ≤ X := Nat.div_le_self _ _
    have HP : Hid (X / 2 ^ (k + 1) = X / 2 ^ k / 2) := by show _ = _; rw [Nat.pow_succ, Nat.div_div_eq_div_mul]
    obtain ⟨Y, hY⟩ : ∃ Y, Y = X / 2 ^ k := ⟨_, rfl⟩
    rw [← hY] at HP hle ⊢
    by_cases hlt : k < r
    · clear hY
      go_wp2
      go_roundw
      case rel => exact ⟨k + 1, by omega, by go_num, by rw [HP.out]; exact int_val' (by omega), trivial⟩
      case measure => simp [intOf]; omega
    · obtain rfl : k = r := by omega
      have HY : Hid (Y = X / 2 ^ k) := hY
      clear hY HP
      go_wp2
      go_ret
      exact ⟨by rw [← HB.out, ← HY.out]; exact ret_bool (by rw [Bool.eq_iff_iff]; simp; omega), k0⟩

end Go.Proofs.YtekbhgcnobiplaaDoor
