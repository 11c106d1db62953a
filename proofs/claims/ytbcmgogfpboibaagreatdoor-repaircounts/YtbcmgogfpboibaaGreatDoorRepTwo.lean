/-
  Lists of two or three numbers of lost columns, in plain words; a list of texts cut off. No condition.
-/
import Derived.Test.YtbcmgogfpboibaaGreatDoorRepLaw
namespace Go.Proofs.YtbcmgogfpboibaaGreatDoor
open Go.RowKit Plain
set_option linter.unusedVariables false

theorem rise_len : ∀ (l : List Nat) (m : List Int), l.Pairwise (fun x y => x < y) → (∀ i, i ∈ l → (i : Int) ∈ m) → l.length ≤ m.length
  | [], _, _, _ => by simp
  | i :: r, m, hp, hm => by
    obtain ⟨h1, h2⟩ := List.pairwise_cons.1 hp
    have hi := hm i (by simp)
    have := rise_len r (m.erase (i : Int)) h2 (fun j hj => by
      have hlt := h1 j hj
      exact (List.mem_erase_of_ne (by omega)).2 (hm j (by simp [hj])))
    rw [List.length_erase_of_mem hi] at this
    have := List.length_pos_of_mem hi
    simp only [List.length_cons]
    omega
theorem gn_len (N : Nat) (l : List Int) : (gn N l).length ≤ l.length := rise_len _ _ (gn_lt N l) (fun i hi => ((gn_mem N l i).1 hi).2)
theorem gn_congr {N : Nat} {l m : List Int} (h : ∀ x, x ∈ l ↔ x ∈ m) : gn N l = gn N m := by
  unfold gn
  apply List.filter_congr
  intro i _
  rw [decide_eq_decide]
  exact h _
theorem not_gn {N : Nat} {l : List Int} {i : Nat} (hi : i < N) (h : i ∉ gn N l) : (i : Int) ∉ l := fun hm => h ((gn_mem N l i).2 ⟨hi, hm⟩)
/-- three unlike columns are too many. -/
theorem gn_three {N a b c : Nat} (ha : a < N) (hb : b < N) (hc : c < N) (h1 : a ≠ b) (h2 : a ≠ c) (h3 : b ≠ c) {l : List Int} (la : (a : Int) ∈ l) (lb : (b : Int) ∈ l) (lc : (c : Int) ∈ l) : 2 < (gn N l).length := by
  have ma : a ∈ gn N l := (gn_mem _ _ _).2 ⟨ha, la⟩
  have mb : b ∈ gn N l := (gn_mem _ _ _).2 ⟨hb, lb⟩
  have mc : c ∈ gn N l := (gn_mem _ _ _).2 ⟨hc, lc⟩
  generalize gn N l = g at ma mb mc
  match g, ma, mb, mc with
  | [], ma, _, _ => cases ma
  | [x], ma, mb, _ => simp at ma mb; omega
  | [x, y], ma, mb, mc => simp at ma mb mc; omega
  | _ :: _ :: _ :: _, _, _, _ => simp
theorem StrsIn.cut {w : World} {a : Option Addr} {len cap : Nat} {l : List ByteArray} (h : StrsIn w (.slice a len cap) l) (n : Nat) : len = l.length ∧ len ≤ cap ∧ cap ≤ maxLen ∧ (n < len → StrsIn w (.slice a n cap) (l.take n)) := by
  cases h with
  | empty a cap h => exact ⟨rfl, by omega, h, fun hn => absurd hn (by omega)⟩
  | some b off cap l h0 h1 h2 hc =>
    refine ⟨rfl, h1, h2, fun hn => ?_⟩
    by_cases hn0 : n = 0
    · subst hn0; exact .empty _ _ h2
    · have hl : (l.take n).length = n := by rw [List.length_take]; omega
      have H := StrsIn.some (w := w) b off cap (l.take n) (by omega) (by omega) h2 (fun i hi => by
        rw [hc i (by omega), getD_take (by omega)])
      rwa [hl] at H
theorem StrsIn.slc {w : World} {v : Value} {l : List ByteArray} (h : StrsIn w v l) : ∃ a len cap, v = .slice a len cap := by
  cases h with
  | empty a cap h => exact ⟨a, 0, cap, rfl⟩
  | some b off cap l h0 h1 h2 hc => exact ⟨_, _, cap, rfl⟩
/-- the law's row: of at most n columns. -/
theorem row_cut {w : World} {a : Option Addr} {len cap : Nat} {l : List ByteArray} (h : StrsIn w (.slice a len cap) l) (hs : ∀ i, i < l.length → (l.getD i noS).size ≤ maxLen) (n : Nat) :
    ∃ m D, ((len ≤ n ∧ m = len) ∨ (n < len ∧ m = n)) ∧ len ≤ cap ∧ cap ≤ 9223372036854775807 ∧ StrsIn w (.slice a m cap) D ∧ (∀ i, i < D.length → (D.getD i noS).size ≤ maxLen) := by
  obtain ⟨e1, e2, e3, e4⟩ := h.cut n
  unfold maxLen at e3
  by_cases hn : len ≤ n
  · exact ⟨len, l, .inl ⟨hn, rfl⟩, e2, by omega, h, hs⟩
  · refine ⟨n, l.take n, .inr ⟨by omega, rfl⟩, e2, by omega, e4 (by omega), fun i hi => ?_⟩
    have hi2 : i < n ∧ i < l.length := by rw [List.length_take] at hi; omega
    rw [getD_take hi2.1]; exact hs i hi2.2
theorem rowL_some {D : List ByteArray} (h : 0 < (rowL D).length) : mkE (rwL D) = 0 := by
  unfold rowL at h
  split at h
  · assumption
  · simp at h

/-- two columns lost, whatever stands in their place. -/
theorem fx_two {n k : Nat} {A : List ByteArray} (hF : Fits n k A) (hk1 : 2 ≤ k) (hk2 : k ≤ 30) (hn : n ≤ 65536) {i j : Nat} (hi : i < k + 2) (hj : j < k + 2) (x y : ByteArray) (lost : List Int) (hl : ∀ z, z ∈ lost ↔ z = (i : Int) ∨ z = (j : Int)) :
    fxE ((A.set i x).set j y) lost = 0 ∧ fxL ((A.set i x).set j y) lost = A ∧ ∀ cnt, fxC cnt ((A.set i x).set j y) lost = up cnt (kdN k (gn (k + 2) lost)) := by
  have hA := hF.len
  have hc : gn (k + 2) lost = gn (k + 2) [(i : Int), (j : Int)] := gn_congr (fun z => by rw [hl]; simp)
  refine fx_row hF hk1 hk2 hn (by simp) lost (fun z hz => ?_) (by rw [hc]; exact gn_len _ _) (fun m hm hg => ?_)
  · rcases (hl z).1 hz with rfl | rfl <;> omega
  · have hm2 : (m : Int) ∉ lost := not_gn (by omega) hg
    rw [hl] at hm2
    rw [getD_set_ne (fun e => hm2 (.inr (by omega))), getD_set_ne (fun e => hm2 (.inl (by omega)))]
theorem fx_kept {n k : Nat} {A : List ByteArray} (hF : Fits n k A) (hk1 : 2 ≤ k) (hk2 : k ≤ 30) (hn : n ≤ 65536) (lost : List Int) (hin : ∀ x, x ∈ lost → 0 ≤ x ∧ x < (k : Int) + 2) (hg : (gn (k + 2) lost).length ≤ 2) :
    fxE A lost = 0 ∧ fxL A lost = A ∧ ∀ cnt, fxC cnt A lost = up cnt (kdN k (gn (k + 2) lost)) := fx_row hF hk1 hk2 hn rfl lost hin hg (fun _ _ _ => rfl)
theorem up_le {cnt : Nat → Int} {B : Int} (h : ∀ j, j < 8 → 0 ≤ cnt j ∧ cnt j ≤ B) (k : Nat) : ∀ j, j < 8 → 0 ≤ up cnt k j ∧ up cnt k j ≤ B + 1 := fun j hj => by
  have := h j hj
  unfold up
  split
  · rename_i e; rw [← e]; omega
  · omega
theorem own_col {w : World} {base g cp n : Nat} {e : TypeId} {M : List ByteArray} (h : w.ownsRow base e 1 (.slice (some ⟨g, 0, none⟩) n cp) n (M.map Value.string)) (hM : M.length = n) : ColIn w g M ∧ base ≤ g ∧ n ≤ cp ∧ cp ≤ maxLen := by
  rcases h.2 with ⟨hv, _⟩ | ⟨g', cp', cur, hv, hb, hg, r1, r2, r3, r4⟩
  · cases hv
  · cases hv
    subst hM
    exact ⟨⟨(Array.getElem?_eq_some_iff.1 hg).1, fun i hi => own_at h rfl i hi, fun o => by simp [World.frozen?, hg]⟩, hb, r1, r2⟩

end Go.Proofs.YtbcmgogfpboibaaGreatDoor
