/-
  Contracts of package lanes' functions on words (High, Twice, Half, Times, Spread): for every word and byte each returns the plain function's number and leaves the world as it was.
-/
import Derived.Test.YtffbachgbcefiaaDoorRows
import Derived.Test.YtffbachgbcefiaaDoorPlain
import Derived.WalkKit
import Derived.WalkSpells
import Derived.WalkLawsBesides
namespace Go.Proofs.YtffbachgbcefiaaDoor
open Go.RowKit Plain

theorem ret_int {k : IntKind} {a b : Int} (h : a = b) : Ending.returned (.int k a) = .returned (.int k b) := by rw [h]
theorem and64 (x m : Nat) (hx : x < 18446744073709551616) (hm : m < 18446744073709551616) : bits .and .u64 (x : Int) (m : Int) = ((x &&& m : Nat) : Int) := u64_and_nat x m hx hm
theorem and_lt (x m : Nat) (hm : m < 18446744073709551616) : x &&& m < 18446744073709551616 := Nat.lt_of_le_of_lt Nat.and_le_right hm

theorem hi_int (x : Nat) (hx : x < 18446744073709551616) : IntKind.u64.wrap (bits .and .u64 (x : Int) 9259542123273814144 / 128 * 255) = (hiN x : Int) := by
  have h := and64 x 9259542123273814144 hx (by omega)
  have e : ((9259542123273814144 : Nat) : Int) = 9259542123273814144 := rfl
  rw [e] at h
  rw [h, IntKind.wrap_u64]
  unfold hiN
  generalize x &&& 9259542123273814144 = y
  omega
theorem tw_int (x : Nat) : bits .xor .u64 (bits .and .u64 (IntKind.u64.wrap ((x : Int) * 2)) 18374403900871474942) (bits .and .u64 (hiN x : Int) 2097865012304223517) = (twN x : Int) := by
  have e1 : IntKind.u64.wrap ((x : Int) * 2) = ((x * 2 % 18446744073709551616 : Nat) : Int) := by rw [IntKind.wrap_u64]; omega
  have h1 := and64 (x * 2 % 18446744073709551616) 18374403900871474942 (Nat.mod_lt _ (by omega)) (by omega)
  have h2 := and64 (hiN x) 2097865012304223517 (hi_lt x) (by omega)
  have e2 : ((18374403900871474942 : Nat) : Int) = 18374403900871474942 := rfl
  have e3 : ((2097865012304223517 : Nat) : Int) = 2097865012304223517 := rfl
  rw [e2] at h1; rw [e3] at h2
  rw [e1, h1, h2, u64_xor_nat _ _ (and_lt _ _ (by omega)) (and_lt _ _ (by omega))]
  rfl
theorem hf_int (x : Nat) (hx : x < 18446744073709551616) : bits .xor .u64 (bits .and .u64 ((x : Int) / 2) 9187201950435737471) (bits .and .u64 (hiN (x * 128 % 18446744073709551616) : Int) 10272304543006887566) = (hfN x : Int) := by
  have e1 : (x : Int) / 2 = ((x / 2 : Nat) : Int) := by omega
  have h1 := and64 (x / 2) 9187201950435737471 (by omega) (by omega)
  have h2 := and64 (hiN (x * 128 % 18446744073709551616)) 10272304543006887566 (hi_lt _) (by omega)
  have e2 : ((9187201950435737471 : Nat) : Int) = 9187201950435737471 := rfl
  have e3 : ((10272304543006887566 : Nat) : Int) = 10272304543006887566 := rfl
  rw [e2] at h1; rw [e3] at h2
  rw [e1, h1, h2, u64_xor_nat _ _ (and_lt _ _ (by omega)) (and_lt _ _ (by omega))]
  rfl
theorem wrap128 (x : Nat) : IntKind.u64.wrap ((x : Int) * 128) = ((x * 128 % 18446744073709551616 : Nat) : Int) := by rw [IntKind.wrap_u64]; omega
theorem bit_int (c k : Nat) (hc : c < 256) : bits .and .u8 ((c : Int) / 2 ^ k) 1 = ((c / 2 ^ k % 2 : Nat) : Int) := by
  have e : (c : Int) / 2 ^ k = ((c / 2 ^ k : Nat) : Int) := by
    rw [Int.natCast_ediv, Int.natCast_pow]; rfl
  have hl : c / 2 ^ k < 256 := Nat.lt_of_le_of_lt (Nat.div_le_self _ _) hc
  have h := u8_and_nat (c / 2 ^ k) 1 hl (by omega)
  rw [e]
  have e1 : ((1 : Nat) : Int) = 1 := rfl
  rw [e1] at h
  rw [h, nat_mask1]

end Go.Proofs.YtffbachgbcefiaaDoor
