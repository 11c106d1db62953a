/-
  Lists of keys behind a Drop and a Pick. Plain facts; no condition.
-/
import Derived.Test.YtcmomebjkbhboaaLfArgs
namespace Go.Proofs.Ytcmomebjkbhboaa
open Go.RowKit Plain
set_option linter.unusedVariables false

theorem dl_len {l : List Wt} (h : Nd l) {x : Wt} {b : Int} (hx : x ∈ l) (e : x.k = b) : (dlL l b).length + 1 = l.length := by
  obtain ⟨A, B, rfl⟩ := List.append_of_mem hx
  rw [dl_hit h e, List.length_append, List.length_append, List.length_cons]
  omega
theorem dl_no (l : List Wt) (b : Int) : ∀ x ∈ dlL l b, x.k ≠ b := fun x hx => by simpa [dlL] using (List.mem_filter.1 hx).2
theorem dl_in {l : List Wt} {b : Int} {x : Wt} : x ∈ dlL l b ↔ x ∈ l ∧ x.k ≠ b := by
  unfold dlL
  rw [List.mem_filter]
  simp
theorem pk_in {S : LS} {k : Int} {x : Wt} : x ∈ (pkS S k).L ↔ ∃ y ∈ S.L, y.k ≠ k ∧ x = incW y := by
  show x ∈ (dlL S.L k).map incW ↔ _
  rw [List.mem_map]
  constructor
  · rintro ⟨y, hy, rfl⟩
    exact ⟨y, (dl_in.1 hy).1, (dl_in.1 hy).2, rfl⟩
  · rintro ⟨y, h1, h2, rfl⟩
    exact ⟨y, dl_in.2 ⟨h1, h2⟩, rfl⟩
theorem pk_len {S : LS} {k : Int} (h : Nd S.L) (hx : Nx S k) : (pkS S k).L.length + 1 = S.L.length := by
  obtain ⟨⟨x, h1, h2⟩, _⟩ := hx
  show ((dlL S.L k).map incW).length + 1 = _
  rw [List.length_map]
  exact dl_len h h1 h2

end Go.Proofs.Ytcmomebjkbhboaa
