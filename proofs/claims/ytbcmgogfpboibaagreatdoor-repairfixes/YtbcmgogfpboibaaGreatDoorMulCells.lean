/-
  The fifteen coefficients of the document's product, in memory: the cells hold the bits of one number; what a store into one of them makes of the number. No condition.
-/
import Derived.Test.YtbcmgogfpboibaaGreatDoorRef
import Derived.Test.YtbcmgogfpboibaaGreatDoorMulPlain
namespace Go.Proofs.YtbcmgogfpboibaaGreatDoor
open Go.RowKit Plain

def bitV (P m : Nat) : Value := .int .i64 (bt P m : Nat)
def bitA (P : Nat) : Array Value := #[bitV P 0, bitV P 1, bitV P 2, bitV P 3, bitV P 4, bitV P 5, bitV P 6, bitV P 7, bitV P 8, bitV P 9, bitV P 10, bitV P 11, bitV P 12, bitV P 13, bitV P 14]
theorem bitA_size (P : Nat) : (bitA P).size = 15 := rfl
theorem cases15 (i : Nat) (h : i < 15) : i = 0 ∨ i = 1 ∨ i = 2 ∨ i = 3 ∨ i = 4 ∨ i = 5 ∨ i = 6 ∨ i = 7 ∨ i = 8 ∨ i = 9 ∨ i = 10 ∨ i = 11 ∨ i = 12 ∨ i = 13 ∨ i = 14 := by omega
theorem bitA_at (P i : Nat) (h : i < 15) : (bitA P)[i]? = some (.int .i64 (bt P i : Nat)) := by
  rcases cases15 i h with rfl | rfl | rfl | rfl | rfl | rfl | rfl | rfl | rfl | rfl | rfl | rfl | rfl | rfl | rfl <;> rfl
theorem bitA_get (P i : Nat) (h : i < 15) (h' : i < (bitA P).size) : (bitA P)[i]'h' = .int .i64 (bt P i : Nat) := by
  have hc := bitA_at P i h
  rw [Array.getElem?_eq_getElem h'] at hc
  exact Option.some.inj hc
theorem bitA_set (P Q m v : Nat) (hm : m < 15) (ho : ∀ i, i ≠ m → bt Q i = bt P i) (ha : bt Q m = v) : (bitA P).setIfInBounds m (.int .i64 (v : Nat)) = bitA Q := by
  have e : (.int .i64 (v : Nat) : Value) = bitV Q m := by unfold bitV; rw [ha]
  have hv : ∀ i, i ≠ m → bitV P i = bitV Q i := fun i hi => by unfold bitV; rw [ho i hi]
  rw [e]
  rcases cases15 m hm with rfl | rfl | rfl | rfl | rfl | rfl | rfl | rfl | rfl | rfl | rfl | rfl | rfl | rfl | rfl <;> unfold bitA <;> simp [hv]
theorem bt_pow (m j : Nat) : bt (2 ^ m) j = if j = m then 1 else 0 := by
  unfold bt
  have h := Nat.testBit_two_pow (n := m) (m := j)
  rw [Nat.testBit_eq_decide_div_mod_eq] at h
  by_cases e : j = m
  · subst e; rw [if_pos rfl, Nat.div_self (Nat.pow_pos (by omega))]
  · rw [if_neg e]
    have e' : ¬ m = j := fun h => e h.symm
    simp [e'] at h; omega
theorem bt_zero (j : Nat) : bt 0 j = 0 := by unfold bt; simp
/-- a bit turned. -/
theorem turn_set (P m : Nat) (hm : m < 15) (v : Nat) (hv : v = 1 - bt P m) : (bitA P).setIfInBounds m (.int .i64 (v : Nat)) = bitA (P ^^^ 2 ^ m) := by
  have hb := bt_lt P m
  refine bitA_set P _ m v hm (fun i hi => ?_) ?_
  · rw [bt_xor, bt_pow, if_neg hi, Nat.xor_zero]
  · rw [bt_xor, bt_pow, if_pos rfl, hv]
    have : bt P m = 0 ∨ bt P m = 1 := by omega
    rcases this with h | h <;> rw [h] <;> rfl
/-- a bit kept. -/
theorem keep_set (P m : Nat) (hm : m < 15) (v : Nat) (hv : v = bt P m) : (bitA P).setIfInBounds m (.int .i64 (v : Nat)) = bitA P :=
  bitA_set P P m v hm (fun _ _ => rfl) hv.symm
theorem bitA_zero : bitA 0 = #[.int .i64 0, .int .i64 0, .int .i64 0, .int .i64 0, .int .i64 0, .int .i64 0, .int .i64 0, .int .i64 0, .int .i64 0, .int .i64 0, .int .i64 0, .int .i64 0, .int .i64 0, .int .i64 0, .int .i64 0] := by
  unfold bitA bitV; simp [bt_zero]

end Go.Proofs.YtbcmgogfpboibaaGreatDoor
