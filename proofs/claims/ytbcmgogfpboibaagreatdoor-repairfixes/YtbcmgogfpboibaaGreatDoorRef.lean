/-
  Contracts of the document's own functions on words (Word, Bytes): Word of eight bytes is their sum at their places, Bytes of a word are its eight bytes; each lays new blocks alone. No condition but the arguments' own kinds.
-/
import Derived.Test.YtbcmgogfpboibaaGreatDoorStrs
import Derived.Test.YtbcmgogfpboibaaGreatDoorExt
namespace Go.Proofs.YtbcmgogfpboibaaGreatDoor
open Go.RowKit Plain

def bvV (f : Nat → Nat) (i : Nat) : Value := .int .u8 (f i : Nat)
def bvA (f : Nat → Nat) : Array Value := #[bvV f 0, bvV f 1, bvV f 2, bvV f 3, bvV f 4, bvV f 5, bvV f 6, bvV f 7]
theorem bvA_at (f : Nat → Nat) (i : Nat) (h : i < 8) : (bvA f)[i]? = some (.int .u8 (f i : Nat)) := by
  have h : i = 0 ∨ i = 1 ∨ i = 2 ∨ i = 3 ∨ i = 4 ∨ i = 5 ∨ i = 6 ∨ i = 7 := by omega
  rcases h with rfl | rfl | rfl | rfl | rfl | rfl | rfl | rfl <;> rfl
theorem bvA_size (f : Nat → Nat) : (bvA f).size = 8 := rfl
/-- the k highest of eight bytes, as a number. -/
def hz (f : Nat → Nat) : Nat → Nat
  | 0 => 0
  | k + 1 => 256 * hz f k + f (7 - k)
theorem hz_lt (f : Nat → Nat) (hf : ∀ i, f i < 256) : ∀ k, hz f k < 256 ^ k
  | 0 => by simp [hz]
  | k + 1 => by
    have h1 := hz_lt f hf k
    have h2 := hf (7 - k)
    simp only [hz]; rw [Nat.pow_succ]; omega
theorem hz_step (n b k : Nat) (hn : n < 256 ^ k) (hk : k < 8) (hb : b < 256) : IntKind.u64.wrap (IntKind.u64.wrap (256 * (n : Int)) + IntKind.u64.wrap (b : Int)) = ((256 * n + b : Nat) : Int) := by
  have h1 : (256 : Nat) ^ k ≤ 256 ^ 7 := Nat.pow_le_pow_right (by omega) (by omega)
  have h2 : (256 : Nat) ^ 7 = 72057594037927936 := by decide +kernel
  simp only [IntKind.wrap_u64]; omega

/-! ### Bytes -/
def byN (x i : Nat) : Nat := x / 256 ^ i % 256
def cut (f : Nat → Nat) (k i : Nat) : Nat := if i < k then f i else 0
theorem cut_step (f : Nat → Nat) (k i : Nat) (h : i ≠ k) : cut f (k + 1) i = cut f k i := by
  unfold cut
  by_cases h1 : i < k
  · rw [if_pos h1, if_pos (by omega)]
  · rw [if_neg h1, if_neg (by omega)]
theorem cut_at (f : Nat → Nat) (k : Nat) : cut f (k + 1) k = f k := by unfold cut; rw [if_pos (by omega)]
theorem set_at (f g : Nat → Nat) (k v : Nat) (hk : k < 8) (ho : ∀ i, i ≠ k → g i = f i) (ha : g k = v) : (bvA f).setIfInBounds k (.int .u8 (v : Nat)) = bvA g := by
  have h : k = 0 ∨ k = 1 ∨ k = 2 ∨ k = 3 ∨ k = 4 ∨ k = 5 ∨ k = 6 ∨ k = 7 := by omega
  have e : (.int .u8 (v : Nat) : Value) = bvV g k := by unfold bvV; rw [ha]
  have hv : ∀ i, i ≠ k → bvV f i = bvV g i := fun i hi => by unfold bvV; rw [ho i hi]
  rw [e]
  rcases h with rfl | rfl | rfl | rfl | rfl | rfl | rfl | rfl <;> unfold bvA <;> simp [hv]
theorem bvA_cut0 (f : Nat → Nat) : bvA (cut f 0) = #[.int .u8 0, .int .u8 0, .int .u8 0, .int .u8 0, .int .u8 0, .int .u8 0, .int .u8 0, .int .u8 0] := rfl
theorem bvA_cut8 (f : Nat → Nat) : bvA (cut f 8) = bvA f := rfl
theorem byN_lt (x i : Nat) : byN x i < 256 := Nat.mod_lt _ (by omega)

def qN (x k : Nat) : Nat := x / 256 ^ k
theorem bvA_lit (f : Nat → Nat) : bvA f = #[.int .u8 (f 0 : Nat), .int .u8 (f 1 : Nat), .int .u8 (f 2 : Nat), .int .u8 (f 3 : Nat), .int .u8 (f 4 : Nat), .int .u8 (f 5 : Nat), .int .u8 (f 6 : Nat), .int .u8 (f 7 : Nat)] := rfl
theorem bv0_lit (f : Nat → Nat) : bvA (cut f 0) = #[.int .u8 0, .int .u8 0, .int .u8 0, .int .u8 0, .int .u8 0, .int .u8 0, .int .u8 0, .int .u8 0] := rfl
theorem q_step (x k : Nat) (hx : x < 18446744073709551616) : IntKind.u64.wrap ((qN x k : Int) / 256) = (qN x (k + 1) : Int) := by
  have hl : qN x k < 18446744073709551616 := Nat.lt_of_le_of_lt (Nat.div_le_self _ _) hx
  have e : qN x (k + 1) = qN x k / 256 := by unfold qN; rw [Nat.pow_succ, Nat.div_div_eq_div_mul]
  rw [e, IntKind.wrap_u64]; omega
theorem q_byte (x k : Nat) : (qN x k : Int) % 256 = ((byN x k : Nat) : Int) := by
  have e : byN x k = qN x k % 256 := rfl
  rw [e]; omega

end Go.Proofs.YtbcmgogfpboibaaGreatDoor
