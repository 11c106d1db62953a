/-
  What layer 4's laws have in common: the lowest five bits of a number. No condition.
-/
import Derived.Test.YtjjghmdkpcbamaaSynRef
import Derived.Test.YtjjghmdkpcbamaaSynCut
namespace Go.Proofs.Ytjjghmdkpcbamaa
open Go.RowKit Plain

theorem mask31 (n : Int) : bits .and .i64 n 31 = n % 32 := by
  have h : (BitVec.ofInt 64 31).toNat = 2 ^ 5 - 1 := by decide
  have key : (BitVec.ofInt 64 n &&& BitVec.ofInt 64 31).toNat = (n % ((2 ^ 64 : Nat) : Int)).toNat % 2 ^ 5 := by
    rw [BitVec.toNat_and, BitVec.toNat_ofInt, h, Nat.and_two_pow_sub_one_eq_mod]
  show IntKind.i64.wrap ((BitVec.ofInt 64 n &&& BitVec.ofInt 64 31).toNat : Nat) = n % 32
  rw [key, IntKind.wrap_i64]
  omega

end Go.Proofs.Ytjjghmdkpcbamaa
