/-
  The calls of package bulk where the texts are buffers of one length: the buffer and OK. Conditions: the texts' lengths.
-/
import Derived.Test.YtbcmgogfpboibaaGreatDoorBufRef
namespace Go.Proofs.YtbcmgogfpboibaaGreatDoor
open Go.RowKit Plain

theorem fit_one {x : ByteArray} (h : x.size ≤ 65536) : fitE [x] = 0 := fit_ok (fun i hi => by
  obtain rfl : i = 0 := by simp at hi; omega
  exact h) (fun i hi => by
  obtain rfl : i = 0 := by simp at hi; omega
  rfl)
theorem res_ok {l : List ByteArray} (h : fitE l = 0) (r : ByteArray) : resOf l r = r := by unfold resOf; rw [if_pos h]
theorem ml65 {n : Nat} (h : n ≤ 65536) : n ≤ maxLen := by unfold maxLen; omega
theorem add2 (x y : ByteArray) (hx : x.size ≤ 65536) (hy : y.size = x.size) (v : Value) (w : World) (h : StrsIn w v [x, y]) :
    Calls Tryz.prog 38 #[v] w fun e w' => e = .returned (.tuple #[.string (foldS x 1 y), .int .i64 0]) ∧ Kp w w' := by
  have H := add_any v [x, y] (small2 (ml65 hx) (ml65 (by omega))) w h
  rw [res_ok (fit_pair hx hy), fit_pair hx hy] at H
  exact H
theorem scale1 (c : Nat) (hc : c < 256) (x : ByteArray) (hx : x.size ≤ 65536) (w : World) :
    Calls Tryz.prog 73 #[.int .u8 c, .string x] w fun e w' => e = .returned (.tuple #[.string (scaleS c x), .int .i64 0]) ∧ Kp w w' := by
  have H := scale_any c hc x (ml65 hx) w
  rw [res_ok (fit_one hx), fit_one hx] at H
  exact H
theorem fold2 (x : ByteArray) (c : Nat) (hc : c < 256) (y : ByteArray) (hx : x.size ≤ 65536) (hy : y.size = x.size) (w : World) :
    Calls Tryz.prog 63 #[.string x, .int .u8 c, .string y] w fun e w' => e = .returned (.tuple #[.string (foldS x c y), .int .i64 0]) ∧ Kp w w' := by
  have H := fold_any x (ml65 hx) c hc y (ml65 (by omega)) w
  rw [res_ok (fit_pair hx hy), fit_pair hx hy] at H
  exact H
theorem double2 (x y : ByteArray) (hx : x.size ≤ 65536) (hy : y.size = x.size) (w : World) :
    Calls Tryz.prog 66 #[.string x, .string y] w fun e w' => e = .returned (.tuple #[.string (foldS y 2 x), .int .i64 0]) ∧ Kp w w' := by
  have H := double_any x y (ml65 hx) (ml65 (by omega)) w
  rw [res_ok (fit_pair hx hy), fit_pair hx hy] at H
  exact H

end Go.Proofs.YtbcmgogfpboibaaGreatDoor
