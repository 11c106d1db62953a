/-
  Contracts of math/bits' functions on words: Len64 and TrailingZeros64 (the library's own, laid at this program) and OnesCount64: the last bit that is set, the first, and how many. Conditions: that the library's table reads as its text lays it.
-/
import Derived.Test.YtffbachgbcefiaaDoorMkRuns
import Derived.Test.YtffbachgbcefiaaDoorProg
import Derived.Shelf.Small.Bits
import Derived.Shelf.Spec.TrailingZeros
import Derived.Laws.Bits128
namespace Go.Proofs
open Go.Shelf
end Go.Proofs
namespace Go.Proofs.YtffbachgbcefiaaDoor
open Go.RowKit Plain

/-- the library's table, in its variable. -/
def Tab (w : World) : Prop := TabAt 0 Lib.deBruijn64tab w
theorem Tab.kp {w w' : World} (h : Tab w) (k : Kp w w') : Tab w' := fun j hj => k.held (h j hj)
theorem oc_int1 (x : Nat) (hx : x < 18446744073709551616) : IntKind.u64.wrap (bits .and .u64 ((x : Int) / 2) 6148914691236517205 + bits .and .u64 (x : Int) 6148914691236517205) = (oc1 x : Int) := by
  have h1 := and64 (x / 2) 6148914691236517205 (by omega) (by omega)
  have h2 := and64 x 6148914691236517205 hx (by omega)
  have hl := (oc_le x).1
  rw [show ((x / 2 : Nat) : Int) = (x : Int) / 2 by omega] at h1
  rw [show ((6148914691236517205 : Nat) : Int) = 6148914691236517205 from rfl] at h1 h2
  unfold oc1 at hl ⊢
  rw [h1, h2, IntKind.wrap_u64]
  omega
theorem oc_int2 (x : Nat) (hx : x < 18446744073709551616) (hl : oc2 x < 18446744073709551616) : IntKind.u64.wrap (bits .and .u64 ((x : Int) / 4) 3689348814741910323 + bits .and .u64 (x : Int) 3689348814741910323) = (oc2 x : Int) := by
  have h1 := and64 (x / 4) 3689348814741910323 (by omega) (by omega)
  have h2 := and64 x 3689348814741910323 hx (by omega)
  rw [show ((x / 4 : Nat) : Int) = (x : Int) / 4 by omega] at h1
  rw [show ((3689348814741910323 : Nat) : Int) = 3689348814741910323 from rfl] at h1 h2
  unfold oc2 at hl ⊢
  rw [h1, h2, IntKind.wrap_u64]
  omega
theorem oc_int3 (x : Nat) (hx : x / 16 + x < 18446744073709551616) : bits .and .u64 ((x : Int) / 16 + (x : Int)) 1085102592571150095 = (oc3 x : Int) := by
  have h1 := and64 (x / 16 + x) 1085102592571150095 hx (by omega)
  rw [show ((x : Int) / 16 + (x : Int)) = ((x / 16 + x : Nat) : Int) by omega]
  exact h1
theorem wrap_nat (x : Nat) (h : x < 18446744073709551616) : IntKind.u64.wrap (x : Int) = (x : Int) := by rw [IntKind.wrap_u64]; omega
set_option maxHeartbeats 1000000 in
theorem ones_any (h : Nat → Bool) (w : World) : Calls Tryd.prog 35 #[.int .u64 (wn 64 h : Nat)] w fun e w' => e = .returned (.int .i64 (cn 64 h : Nat)) ∧ w' = w := by
  have hx := wn_lt 64 h
  have hr : cn 64 h = oc (wn 64 h) := by
    rw [oc_is _ hx]
    exact cn_congr 64 _ _ (fun j hj => by rw [wn_bit, decide_eq_true hj]; rfl)
  rw [hr]
  clear hr
  generalize wn 64 h = x at hx
  obtain ⟨l1, l2, l3⟩ := oc_le x
  have e1 := oc_int1 x hx
  have e2 := oc_int2 (oc1 x) (by omega) (by omega)
  have e3 := oc_int3 (oc2 (oc1 x)) (by omega)
  have HO : Hid (oc x = (let p := oc3 (oc2 (oc1 x)); let q := p + p / 256; let r := q + q / 65536; (r + r / 4294967296) % 128)) := rfl
  generalize oc x = z at HO
  generalize hp : oc3 (oc2 (oc1 x)) = p at HO l3 e3
  generalize hp2 : oc2 (oc1 x) = p2 at l2 e2 e3
  generalize hp1 : oc1 x = p1 at l1 e1 e2
  clear hp hp2 hp1
  have HZ : Hid (z = (p + p / 256 + (p + p / 256) / 65536 + (p + p / 256 + (p + p / 256) / 65536) / 4294967296) % 128) := HO.out
  clear HO
  have e4 : IntKind.u64.wrap ((p : Int) + (p : Int) / 256) = ((p + p / 256 : Nat) : Int) := by rw [IntKind.wrap_u64]; omega
  have l4 : p + p / 256 ≤ 2305843009213693952 := by omega
  generalize p + p / 256 = q at HZ e4 l4
  have e5 : IntKind.u64.wrap ((q : Int) + (q : Int) / 65536) = ((q + q / 65536 : Nat) : Int) := by rw [IntKind.wrap_u64]; omega
  have l5 : q + q / 65536 ≤ 4611686018427387904 := by omega
  generalize q + q / 65536 = r at HZ e5 l5
  have e6 : IntKind.u64.wrap ((r : Int) + (r : Int) / 4294967296) = ((r + r / 4294967296 : Nat) : Int) := by rw [IntKind.wrap_u64]; omega
  have l6 : r + r / 4294967296 ≤ 9223372036854775807 := by omega
  generalize r + r / 4294967296 = t at HZ e6 l6
  go_enter Tryd.func35, Tryd.ntmps35
  go_wp2
  go_ret
  exact ⟨ret_int (by rw [HZ.out, i64_and127]; omega), rfl⟩

end Go.Proofs.YtffbachgbcefiaaDoor
