/-
  Arguments of layer 5's laws, opened: a list of numbers, lists of numbers, arrays of numbers. No condition.
-/
import Derived.Test.YtbcmgogfpboibaaGreatDoorRepRefS
import Derived.Test.YtbcmgogfpboibaaGreatDoorBufArgs
import Derived.Deep.Matrix
namespace Go.Proofs.YtbcmgogfpboibaaGreatDoor
open Go.ChangeShapes Go.WideShapes Go.ChangeAt Go.RowKit

section
variable {H : Type} {enc : TypeId × Value → H} {P : Program}
theorem open_intsL {t e : TypeId} {W : World} {base : Nat} {v : Value} {d : DataW H} {ps : List MemPlace} (ht : P.underlying t = some (.slice e)) (he : P.underlying e = some (.int .i64)) (hc : P.cellsOf e = 1)
    (hv : Value.okWide P W .any base t v) (h : DataW.Trod enc P W 0 (fun _ => true) true t v d ps) : ∃ l : List Int, IntsIn W v l := by
  obtain ⟨a0, len, cap, rfl⟩ := okWide_slice ht hv
  obtain ⟨fuel, hf⟩ := h
  rcases open_ints ht he hc hf with ⟨hcs, _⟩ | ⟨a, len', cap', zs, hcs, _, hl, hm, hz, _, hcell, _⟩
  · simp [Value.cells] at hcs
    obtain ⟨rfl, rfl, rfl⟩ := hcs
    exact ⟨[], .empty none 0 (by unfold maxLen; omega)⟩
  · simp [Value.cells] at hcs
    obtain ⟨rfl, rfl, rfl⟩ := hcs
    simp only [if_true] at hz
    by_cases h0 : len = 0
    · subst h0; exact ⟨[], .empty _ _ hm⟩
    · obtain ⟨b, off, spot⟩ := a
      have hspot : spot = none := by simpa [Addr.add] using World.cell?_spot (hcell 0 (by omega))
      subst hspot
      have hlen : (zs.take len).length = len := by rw [List.length_take]; omega
      have key := IntsIn.some (w := W) b off cap (zs.take len) (by omega) (by omega) hm (fun i hi => by
        rw [hlen] at hi
        have hci := hcell i (by omega)
        have ei : (Addr.add ⟨b, off, none⟩ i) = ⟨b, off + i, none⟩ := by simp [Addr.add]
        rw [ei] at hci
        rw [hci, List.getD_eq_getElem?_getD, List.getD_eq_getElem?_getD, List.getElem?_take_of_lt hi])
      rw [hlen] at key
      exact ⟨zs.take len, key⟩
end

end Go.Proofs.YtbcmgogfpboibaaGreatDoor
