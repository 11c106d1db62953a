/-
  The library's table when the call begins, as the row lists it. Condition: that the variable reads as it is listed.
-/
import Derived.Test.YtncdidklgpmefaaDoorCaDirty
import Derived.Test.YtncdidklgpmefaaDoorRows
import Derived.Test.YtncdidklgpmefaaDoorBufArgs
import Derived.ProofKit
import Derived.LaidMore
import Derived.OpenShut
import Derived.Stop.Joined
import Derived.Deep.Matrix
namespace Go.Proofs.YtncdidklgpmefaaDoor
open Go.ChangeShapes Go.WideShapes Go.ChangeAt Go.RowKit Plain
set_option linter.unusedVariables false

def lz : List (String × DataW Unit) := Rows.cacheCleanRow.laid
theorem door_met (os : Os) (args : Array Value) : laidMetH Tryd.prog lz ((World.doorLaid Tryd.prog 400 os).forCall (fun _ _ => 0) ⟨#[], args, []⟩).memory :=
  laidMetH_of_parts3 (fuel := 8) (laidMet_of_run' 8 (by kernel_rfl) (by kernel_rfl)) (by kernel_rfl) (by kernel_rfl)
theorem of_laid {W : World} (h : laidMetH Tryd.prog lz W) : Tab W := by
  rw [MakeChecks.laidMetH_plain _ _ _ (by kernel_rfl)] at h
  obtain ⟨ps, ⟨g0, t0, cs0, f0, p0, q0, hg0, ht0, hv0, hd0, _, _⟩, _, _⟩ := h
  have e0 : some g0 = some 0 := hg0.symm.trans (by kernel_rfl)
  obtain rfl := Option.some.inj e0
  have e1 : some t0 = some 124 := ht0.symm.trans (by kernel_rfl)
  obtain rfl := Option.some.inj e1
  obtain ⟨xs, m1, rfl, hx1, hlen, hn3, hel⟩ := DataW.trod_array Tryd.underlying124 hd0
  have c9 : Tryd.prog.cellsOf 5 = 1 := by kernel_rfl
  obtain ⟨hag, _⟩ := Prod.mk.inj hx1
  have hl : xs.map (·.1) = Lib.deBruijn64tab.map (fun (n : Nat) => (.lit (.int .u8 (n : Int)) : DataW Unit)) := (DataW.agg.inj hag).symm
  have ht : Lib.deBruijn64tab.length = 64 := by decide
  intro j hj0
  have hj : j < 64 := by rw [ht] at hj0; exact hj0
  have hj' := hel j hj
  rw [c9, Nat.mul_one, List.getElem?_eq_getElem (by omega)] at hj'
  obtain ⟨s, e2, e3, _⟩ := DataW.trod_int Tryd.underlying5 hj'
  have e4 : cs0.toList[j]? = some (.int .u8 s) := by
    have := congrArg (fun l => l[0]?) e2
    simpa using this
  have hc := World.var?_cell hg0 hv0 j
  rw [← Array.getElem?_toList, e4] at hc
  have e5 : (xs.map (·.1))[j]? = some (.lit (.int .u8 s)) := by
    rw [List.getElem?_map, List.getElem?_eq_getElem (by omega)]
    simp [e3]
  rw [hl, List.getElem?_map, List.getElem?_eq_getElem hj0] at e5
  have e6 : s = ((Lib.deBruijn64tab.getD j 0 : Nat) : Int) := by
    rw [List.getD_eq_getElem?_getD, List.getElem?_eq_getElem hj0]
    simp at e5
    simp [← e5]
  rw [← e6]
  exact hc

end Go.Proofs.YtncdidklgpmefaaDoor
