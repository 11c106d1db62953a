/-
  Contracts of package lanes' Load and Store and of the laws' function wakes: Load gives the sum of the eight bytes at their places and leaves the world as it was; Store gives the eight bytes of the word and lays one new block; wakes answers true and lays one new block. No condition but the arguments' own kinds.
-/
import Derived.Test.YtffbachgbcefiaaDoorLanes
import Derived.Laws.BytesArg
namespace Go.Proofs.YtffbachgbcefiaaDoor
open Go.RowKit Plain

/-! ### Load -/
def bAt (s : ByteArray) (p : Int) : Nat := if h : 0 ≤ p ∧ p < s.size then (s[p.toNat]'(by omega)).toNat else 0
def ldS (s : ByteArray) (p : Int) : Nat → Nat
  | 0 => 0
  | n + 1 => ldS s p n + bAt s (p + n) * 2 ^ (8 * n)
theorem bAt_lt (s : ByteArray) (p : Int) : bAt s p < 256 := by
  unfold bAt; split
  · exact UInt8.toNat_lt _
  · omega
theorem ldS_lt (s : ByteArray) (p : Int) : ∀ n, ldS s p n < 2 ^ (8 * n)
  | 0 => by simp [ldS]
  | n + 1 => by
    have h1 := ldS_lt s p n
    have h2 := bAt_lt s (p + n)
    simp only [ldS]
    have h3 : bAt s (p + n) * 2 ^ (8 * n) ≤ 255 * 2 ^ (8 * n) := Nat.mul_le_mul_right _ (by omega)
    rw [show 8 * (n + 1) = 8 * n + 8 by omega, Nat.pow_add]
    omega
theorem pow_le (n : Nat) (h : n < 8) : (2 : Nat) ^ (8 * (n + 1)) ≤ 18446744073709551616 := by
  have : (2 : Nat) ^ (8 * (n + 1)) ≤ 2 ^ 64 := Nat.pow_le_pow_right (by omega) (by omega)
  omega
theorem ldS_lt64 (s : ByteArray) (p : Int) (n : Nat) (h : n ≤ 8) : ldS s p n < 18446744073709551616 := by
  have h1 := ldS_lt s p n
  have : (2 : Nat) ^ (8 * n) ≤ 2 ^ 64 := Nat.pow_le_pow_right (by omega) (by omega)
  omega
theorem join_int (n b k : Nat) (hb : b < 256) (hn : n < 2 ^ (8 * k)) (hk : k < 8) :
    bits .or .u64 (n : Int) (IntKind.u64.wrap (IntKind.u64.wrap (b : Int) * 2 ^ (8 * k))) = ((n + b * 2 ^ (8 * k) : Nat) : Int) := by
  have h1 : b * 2 ^ (8 * k) ≤ 255 * 2 ^ (8 * k) := Nat.mul_le_mul_right _ (by omega)
  have h2 := pow_le k hk
  rw [show 8 * (k + 1) = 8 * k + 8 by omega, Nat.pow_add] at h2
  have h3 : b * 2 ^ (8 * k) < 18446744073709551616 := by omega
  have e1 : IntKind.u64.wrap (b : Int) = (b : Int) := by rw [IntKind.wrap_u64]; omega
  have e2 : (b : Int) * 2 ^ (8 * k) = ((b * 2 ^ (8 * k) : Nat) : Int) := by
    rw [Int.natCast_mul, Int.natCast_pow]; rfl
  have e3 : IntKind.u64.wrap ((b * 2 ^ (8 * k) : Nat) : Int) = ((b * 2 ^ (8 * k) : Nat) : Int) := by rw [IntKind.wrap_u64]; omega
  rw [e1, e2, e3, u64_or_nat _ _ (by omega) h3, Nat.or_comm, nat_join (8 * k) _ _ (Nat.mul_mod_left _ _) hn, Nat.add_comm]
theorem wrap_past (a : Int) (k : Nat) (h : 9223372036854775807 < a + k) (h2 : a ≤ 9223372036854775807) (hk : k < 8) : wrap64 (a + k) < 0 := by
  simp only [wrap64]; omega

/-! ### Store -/
def byI (x i : Nat) : Int := (x : Int) / 2 ^ (8 * i) % 256
def stL (x : Nat) : List Int := [byI x 0, byI x 1, byI x 2, byI x 3, byI x 4, byI x 5, byI x 6, byI x 7]
def stV (x k i : Nat) : Value := .int .u8 (if i < k then byI x i else 0)
def stA (x k : Nat) : Array Value := #[stV x k 0, stV x k 1, stV x k 2, stV x k 3, stV x k 4, stV x k 5, stV x k 6, stV x k 7]
theorem stA_size (x k : Nat) : (stA x k).size = 8 := rfl
theorem stV_step (x k i : Nat) (h : i ≠ k) : stV x (k + 1) i = stV x k i := by
  unfold stV
  by_cases h1 : i < k
  · rw [if_pos h1, if_pos (by omega)]
  · rw [if_neg h1, if_neg (by omega)]
theorem stV_at (x k : Nat) : stV x (k + 1) k = .int .u8 (byI x k) := by
  unfold stV; rw [if_pos (by omega)]
theorem stA_step (x k : Nat) (hk : k < 8) : (stA x k).setIfInBounds k (.int .u8 ((x : Int) / 2 ^ (8 * k) % 256)) = stA x (k + 1) := by
  have h : k = 0 ∨ k = 1 ∨ k = 2 ∨ k = 3 ∨ k = 4 ∨ k = 5 ∨ k = 6 ∨ k = 7 := by omega
  have e : (.int .u8 ((x : Int) / 2 ^ (8 * k) % 256) : Value) = stV x (k + 1) k := (stV_at x k).symm
  rw [e]
  rcases h with rfl | rfl | rfl | rfl | rfl | rfl | rfl | rfl <;> rfl
theorem stA_zero (x : Nat) : stA x 0 = #[.int .u8 0, .int .u8 0, .int .u8 0, .int .u8 0, .int .u8 0, .int .u8 0, .int .u8 0, .int .u8 0] := rfl
theorem stA_cell (x i : Nat) (h : i < 8) : (stA x 8)[i]? = some (.int .u8 ((stL x).getD i 0)) := by
  have h : i = 0 ∨ i = 1 ∨ i = 2 ∨ i = 3 ∨ i = 4 ∨ i = 5 ∨ i = 6 ∨ i = 7 := by omega
  rcases h with rfl | rfl | rfl | rfl | rfl | rfl | rfl | rfl <;> rfl


end Go.Proofs.YtffbachgbcefiaaDoor
