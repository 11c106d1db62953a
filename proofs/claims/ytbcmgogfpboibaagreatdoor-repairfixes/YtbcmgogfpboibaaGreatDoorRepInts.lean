/-
  Numbers, rising, each of them once (dst), in plain words: they are the numbers of a range that the list has (gn). No condition.
-/
import Derived.Lib.SlicesCompact
namespace Go.Proofs.YtbcmgogfpboibaaGreatDoor

def leB (x y : Int) : Bool := decide (x ≤ y)
/-- the numbers of a list, rising, each of them once. -/
def dst (l : List Int) : List Int := Lib.compact (l.mergeSort fun x y => decide (x ≤ y))
theorem sort_le (l : List Int) : (l.mergeSort fun x y => decide (x ≤ y)).Pairwise (fun x y => x ≤ y) := by
  have h := List.pairwise_mergeSort (le := fun x y : Int => decide (x ≤ y)) (fun a b c h1 h2 => by simp at h1 h2 ⊢; omega) (fun a b => by simp; omega) l
  exact h.imp (fun h => by simpa using h)
theorem at_le {d : List Int} (h : d.Pairwise (fun x y => x ≤ y)) {i j : Nat} (hij : i ≤ j) (hj : j < d.length) : d.toArray[i]! ≤ d.toArray[j]! := by
  rcases Nat.lt_or_eq_of_le hij with h' | rfl
  · have := List.pairwise_iff_getElem.1 h i j (by omega) hj h'
    simpa [hj, show i < d.length by omega] using this
  · exact Int.le_refl _
theorem compact_lt {d : List Int} (h : d.Pairwise (fun x y => x ≤ y)) : (Lib.compact d).Pairwise (fun x y => x < y) := by
  unfold Lib.compact Lib.compactUpTo
  rw [List.pairwise_map, List.pairwise_filter]
  refine List.Pairwise.imp_of_mem ?_ (List.pairwise_lt_range (n := d.length))
  intro i j hi hj hij _ hk
  rw [List.mem_range] at hi hj
  unfold Lib.keeps at hk
  have h1 := at_le h (show i ≤ j - 1 by omega) (by omega)
  have h2 := at_le h (show j - 1 ≤ j by omega) hj
  have h3 : d.toArray[j]! ≠ d.toArray[j - 1]! := by
    rcases of_decide_eq_true hk with h0 | h0
    · omega
    · exact h0
  omega
theorem compact_at (d : List Int) : ∀ j, j < d.length → d.toArray[j]! ∈ Lib.compact d
  | j, hj => by
    by_cases hk : Lib.keeps d.toArray j = true
    · unfold Lib.compact Lib.compactUpTo
      exact List.mem_map.2 ⟨j, List.mem_filter.2 ⟨List.mem_range.2 hj, hk⟩, rfl⟩
    · have h0 : ¬ (j = 0 ∨ d.toArray[j]! ≠ d.toArray[j - 1]!) := fun h => hk (decide_eq_true h)
      have h1 : d.toArray[j]! = d.toArray[j - 1]! := Decidable.not_not.1 fun h => h0 (.inr h)
      have h2 : 0 < j := Nat.pos_of_ne_zero fun h => h0 (.inl h)
      rw [h1]
      exact compact_at d (j - 1) (by omega)
  termination_by j => j
theorem compact_mem (d : List Int) (x : Int) : x ∈ Lib.compact d ↔ x ∈ d := by
  constructor
  · intro h
    unfold Lib.compact Lib.compactUpTo at h
    obtain ⟨j, hj, rfl⟩ := List.mem_map.1 h
    have hl := List.mem_range.1 (List.mem_filter.1 hj).1
    simp [hl]
  · intro h
    obtain ⟨j, hj, rfl⟩ := List.mem_iff_getElem.1 h
    have := compact_at d j hj
    simpa [hj] using this
theorem dst_lt (l : List Int) : (dst l).Pairwise (fun x y => x < y) := compact_lt (sort_le l)
theorem dst_mem (l : List Int) (x : Int) : x ∈ dst l ↔ x ∈ l := by unfold dst; rw [compact_mem, List.mem_mergeSort]
theorem rising_ext : ∀ {a b : List Int}, a.Pairwise (fun x y => x < y) → b.Pairwise (fun x y => x < y) → (∀ x, x ∈ a ↔ x ∈ b) → a = b
  | [], [], _, _, _ => rfl
  | [], y :: b, _, _, h => absurd ((h y).2 (by simp)) (by simp)
  | x :: a, [], _, _, h => absurd ((h x).1 (by simp)) (by simp)
  | x :: a, y :: b, ha, hb, h => by
    obtain ⟨ha1, ha2⟩ := List.pairwise_cons.1 ha
    obtain ⟨hb1, hb2⟩ := List.pairwise_cons.1 hb
    have e : x = y := by
      rcases List.mem_cons.1 ((h x).1 (by simp)) with e | hx
      · exact e
      · rcases List.mem_cons.1 ((h y).2 (by simp)) with e | hy
        · exact e.symm
        · have := ha1 y hy; have := hb1 x hx; omega
    subst e
    congr 1
    refine rising_ext ha2 hb2 fun z => ?_
    constructor
    · intro hz
      rcases List.mem_cons.1 ((h z).1 (List.mem_cons_of_mem _ hz)) with e | h'
      · have := ha1 z hz; omega
      · exact h'
    · intro hz
      rcases List.mem_cons.1 ((h z).2 (List.mem_cons_of_mem _ hz)) with e | h'
      · have := hb1 z hz; omega
      · exact h'
/-- the numbers below N that the list has. -/
def gn (N : Nat) (l : List Int) : List Nat := (List.range N).filter fun i => decide ((i : Int) ∈ l)
theorem gn_mem (N : Nat) (l : List Int) (i : Nat) : i ∈ gn N l ↔ i < N ∧ (i : Int) ∈ l := by unfold gn; rw [List.mem_filter, List.mem_range]; simp
theorem gn_lt (N : Nat) (l : List Int) : (gn N l).Pairwise (fun x y => x < y) := List.Pairwise.filter _ (List.pairwise_lt_range (n := N))
theorem dst_gn (N : Nat) (l : List Int) (h : ∀ x ∈ l, 0 ≤ x ∧ x < N) : dst l = (gn N l).map (fun i : Nat => (i : Int)) := by
  refine rising_ext (dst_lt l) ?_ fun x => ?_
  · rw [List.pairwise_map]; exact (gn_lt N l).imp (fun h => by omega)
  · rw [dst_mem, List.mem_map]
    constructor
    · intro hx
      obtain ⟨h0, h1⟩ := h x hx
      refine ⟨x.toNat, (gn_mem N l _).2 ⟨by omega, ?_⟩, by omega⟩
      rw [show ((x.toNat : Nat) : Int) = x by omega]; exact hx
    · rintro ⟨i, hi, rfl⟩
      exact ((gn_mem N l i).1 hi).2

end Go.Proofs.YtbcmgogfpboibaaGreatDoor
