/-
  What layer 4's laws have in common: the lowest five bits of a number. No condition.
-/
import Derived.Test.YtjjghmdkpcbamaaSynRef
import Derived.Test.YtjjghmdkpcbamaaSynCut
namespace Go.Proofs.Ytjjghmdkpcbamaa
open Go.RowKit Plain

theorem mask31 (n : Int) : bits .and .i64 n 31 = n % 32 := by
  have h : (BitVec.ofInt 64 31).toNat = 2 ^ 5 - 1 := by decide
  have key : (BitVec.ofInt 64 n &&& BitVec.ofInt 64 31).toNat = (n % ((2 ^ 64 : Nat) : Int)).toNat % 2 ^ 5 := by
    rw [BitVec.toNat_and, BitVec.toNat_ofInt, h, Nat.and_two_pow_sub_one_eq_mod]
  show IntKind.i64.wrap ((BitVec.ofInt 64 n &&& BitVec.ofInt 64 31).toNat : Nat) = n % 32
  rw [key, IntKind.wrap_i64]
  omega

theorem StrsIn.four {w : World} {v : Value} {A B C D : ByteArray} (h : StrsIn w v [A, B, C, D]) : ∃ b off cap, v = .slice (Option.some ⟨b, off, none⟩) 4 cap ∧ 4 ≤ cap ∧ cap ≤ 9223372036854775807 ∧ w.cell? ⟨b, off, none⟩ = Option.some (.string A) ∧ w.cell? ⟨b, off + 1, none⟩ = Option.some (.string B) ∧ w.cell? ⟨b, off + 2, none⟩ = Option.some (.string C) ∧ w.cell? ⟨b, off + 3, none⟩ = Option.some (.string D) := by
  obtain ⟨l, hl⟩ : ∃ l, l = [A, B, C, D] := ⟨_, rfl⟩
  rw [← hl] at h
  cases h with
  | empty a cap h => cases hl
  | some b off cap l h0 h1 h2 hc =>
    subst hl
    exact ⟨b, off, cap, rfl, h1, by unfold maxLen at h2; omega, hc 0 (by simp), hc 1 (by simp), hc 2 (by simp), hc 3 (by simp)⟩

end Go.Proofs.Ytjjghmdkpcbamaa
