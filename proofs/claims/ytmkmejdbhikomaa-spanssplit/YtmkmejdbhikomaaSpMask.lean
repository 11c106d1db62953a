/-
  The lowest bits of a number, and small lists of numbers and spans in memory. No condition.
-/
import Derived.Test.YtmkmejdbhikomaaSpArgs
import Derived.Test.YtmkmejdbhikomaaLanes
namespace Go.Proofs.Ytmkmejdbhikomaa
open Go.RowKit Plain
set_option linter.unusedVariables false

theorem mask31 (n : Int) : bits .and .i64 n 31 = n % 32 := by
  have h : (BitVec.ofInt 64 31).toNat = 2 ^ 5 - 1 := by decide
  have key : (BitVec.ofInt 64 n &&& BitVec.ofInt 64 31).toNat = (n % ((2 ^ 64 : Nat) : Int)).toNat % 2 ^ 5 := by
    rw [BitVec.toNat_and, BitVec.toNat_ofInt, h, Nat.and_two_pow_sub_one_eq_mod]
  show IntKind.i64.wrap ((BitVec.ofInt 64 n &&& BitVec.ofInt 64 31).toNat : Nat) = n % 32
  rw [key, IntKind.wrap_i64]
  omega
theorem mask63 (n : Int) : bits .and .i64 n 63 = n % 64 := by
  have h : (BitVec.ofInt 64 63).toNat = 2 ^ 6 - 1 := by decide
  have key : (BitVec.ofInt 64 n &&& BitVec.ofInt 64 63).toNat = (n % ((2 ^ 64 : Nat) : Int)).toNat % 2 ^ 6 := by
    rw [BitVec.toNat_and, BitVec.toNat_ofInt, h, Nat.and_two_pow_sub_one_eq_mod]
  show IntKind.i64.wrap ((BitVec.ofInt 64 n &&& BitVec.ofInt 64 63).toNat : Nat) = n % 64
  rw [key, IntKind.wrap_i64]
  omega
theorem mask255 (n : Int) : bits .and .i64 n 255 = n % 256 := by
  have h : (BitVec.ofInt 64 255).toNat = 2 ^ 8 - 1 := by decide
  have key : (BitVec.ofInt 64 n &&& BitVec.ofInt 64 255).toNat = (n % ((2 ^ 64 : Nat) : Int)).toNat % 2 ^ 8 := by
    rw [BitVec.toNat_and, BitVec.toNat_ofInt, h, Nat.and_two_pow_sub_one_eq_mod]
  show IntKind.i64.wrap ((BitVec.ofInt 64 n &&& BitVec.ofInt 64 255).toNat : Nat) = n % 256
  rw [key, IntKind.wrap_i64]
  omega
theorem mask1023 (n : Int) : bits .and .i64 n 1023 = n % 1024 := by
  have h : (BitVec.ofInt 64 1023).toNat = 2 ^ 10 - 1 := by decide
  have key : (BitVec.ofInt 64 n &&& BitVec.ofInt 64 1023).toNat = (n % ((2 ^ 64 : Nat) : Int)).toNat % 2 ^ 10 := by
    rw [BitVec.toNat_and, BitVec.toNat_ofInt, h, Nat.and_two_pow_sub_one_eq_mod]
  show IntKind.i64.wrap ((BitVec.ofInt 64 n &&& BitVec.ofInt 64 1023).toNat : Nat) = n % 1024
  rw [key, IntKind.wrap_i64]
  omega
/-- a block of numbers. -/
def InB (w : World) (b : Nat) (l : List Int) : Prop := ∀ j, j < l.length → w.cell? ⟨b, j, none⟩ = some (.int .i64 (l.getD j 0))
theorem InB.kept {w w' : World} {b : Nat} {l : List Int} (h : InB w b l) (k : Kp w w') : InB w' b l := fun j hj => k.held (h j hj)
theorem InB.new (w : World) (l : List Int) (t : TypeId) : InB (w.alloc (.cells (l.map (Value.int .i64)).toArray t)) w.heap.size l := fun j hj => by
  rw [World.cell?_alloc_at _ _ _ _ rfl]
  simp [List.getD_eq_getElem?_getD, hj]

theorem two_boxes (w : World) (a b c d : Value) (t1 t2 : TypeId) : ((((w.alloc (.cells #[a, b] t1)).alloc (.cells #[c, d] t2)).drew.cell? ⟨w.heap.size, 0, none⟩ = some a ∧ ((w.alloc (.cells #[a, b] t1)).alloc (.cells #[c, d] t2)).drew.cell? ⟨w.heap.size, 1, none⟩ = some b) ∧ ((w.alloc (.cells #[a, b] t1)).alloc (.cells #[c, d] t2)).drew.cell? ⟨w.heap.size + 1, 0, none⟩ = some c ∧ ((w.alloc (.cells #[a, b] t1)).alloc (.cells #[c, d] t2)).drew.cell? ⟨w.heap.size + 1, 1, none⟩ = some d) ∧ Kp w ((w.alloc (.cells #[a, b] t1)).alloc (.cells #[c, d] t2)).drew := by
  refine ⟨⟨⟨?_, ?_⟩, ?_, ?_⟩, (((Kp.refl w).alloc _).alloc _).drew⟩
  · exact (((Kp.refl _).alloc _).drew).held (by rw [World.cell?_alloc_at _ _ _ _ rfl]; rfl)
  · exact (((Kp.refl _).alloc _).drew).held (by rw [World.cell?_alloc_at _ _ _ _ rfl]; rfl)
  · rw [World.cell?_drew, World.cell?_alloc_at _ _ _ _ (by simp)]; rfl
  · rw [World.cell?_drew, World.cell?_alloc_at _ _ _ _ (by simp)]; rfl

end Go.Proofs.Ytmkmejdbhikomaa
