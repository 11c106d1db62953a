/-
  Contracts of math/bits' functions on words: Len64 and TrailingZeros64 (the library's own, laid at this program) and OnesCount64: the last bit that is set, the first, and how many. Conditions: that the library's table reads as its text lays it.
-/
import Derived.Test.YtncdidklgpmefaaMkRuns
import Derived.Test.YtncdidklgpmefaaProg
import Derived.Shelf.Small.Bits
import Derived.Shelf.Spec.TrailingZeros
import Derived.Laws.Bits128
namespace Go.Proofs
open Go.Shelf
end Go.Proofs
namespace Go.Proofs.Ytncdidklgpmefaa
open Go.RowKit Plain

/-- the library's table, in its variable. -/
def Tab (w : World) : Prop := TabAt 0 Lib.deBruijn64tab w
theorem Tab.kp {w w' : World} (h : Tab w) (k : Kp w w') : Tab w' := fun j hj => k.held (h j hj)
theorem oc_int1 (x : Nat) (hx : x < 18446744073709551616) : IntKind.u64.wrap (bits .and .u64 ((x : Int) / 2) 6148914691236517205 + bits .and .u64 (x : Int) 6148914691236517205) = (oc1 x : Int) := by
  have h1 := and64 (x / 2) 6148914691236517205 (by omega) (by omega)
  have h2 := and64 x 6148914691236517205 hx (by omega)
  have hl := (oc_le x).1
  rw [show ((x / 2 : Nat) : Int) = (x : Int) / 2 by omega] at h1
  rw [show ((6148914691236517205 : Nat) : Int) = 6148914691236517205 from rfl] at h1 h2
  unfold oc1 at hl ⊢
  rw [h1, h2, IntKind.wrap_u64]
  omega
theorem oc_int2 (x : Nat) (hx : x < 18446744073709551616) (hl : oc2 x < 18446744073709551616) : IntKind.u64.wrap (bits .and .u64 ((x : Int) / 4) 3689348814741910323 + bits .and .u64 (x : Int) 3689348814741910323) = (oc2 x : Int) := by
  have h1 := and64 (x / 4) 3689348814741910323 (by omega) (by omega)
  have h2 := and64 x 3689348814741910323 hx (by omega)
  rw [show ((x / 4 : Nat) : Int) = (x : Int) / 4 by omega] at h1
  rw [show ((3689348814741910323 : Nat) : Int) = 3689348814741910323 from rfl] at h1 h2
  unfold oc2 at hl ⊢
  rw [h1, h2, IntKind.wrap_u64]
  omega
theorem oc_int3 (x : Nat) (hx : x / 16 + x < 18446744073709551616) : bits .and .u64 ((x : Int) / 16 + (x : Int)) 1085102592571150095 = (oc3 x : Int) := by
  have h1 := and64 (x / 16 + x) 1085102592571150095 hx (by omega)
  rw [show ((x : Int) / 16 + (x : Int)) = ((x / 16 + x : Nat) : Int) by omega]
  exact h1
theorem wrap_nat (x : Nat) (h : x < 18446744073709551616) : IntKind.u64.wrap (x : Int) = (x : Int) := by rw [IntKind.wrap_u64]; omega

end Go.Proofs.Ytncdidklgpmefaa
