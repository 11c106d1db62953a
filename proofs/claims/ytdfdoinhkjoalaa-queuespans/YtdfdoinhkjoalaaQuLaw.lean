/-
  Lists of items that rise: what a Put and a Take make of them, block by block. Plain facts; no condition.
-/
import Derived.Test.YtdfdoinhkjoalaaQuNil
namespace Go.Proofs.Ytdfdoinhkjoalaa
open Go.RowKit Plain
set_option linter.unusedVariables false

theorem get_none {l : List It} {b : Int} (h : ∀ x ∈ l, x.b ≠ b) : getL l b = none := List.find?_eq_none.2 (fun x hx => by simpa using h x hx)
theorem get_app (A B : List It) (b : Int) : getL (A ++ B) b = (getL A b).or (getL B b) := by unfold getL; rw [List.find?_append]
theorem get_cons (y : It) (B : List It) (b : Int) : getL (y :: B) b = if y.b = b then some y else getL B b := by
  unfold getL
  rw [List.find?_cons]
  by_cases h : y.b = b
  · simp [h]
  · simp [h]
theorem hs_get (l : List It) (b : Int) : hsI l b = (getL l b).isSome := by
  unfold hsI getL
  rw [Bool.eq_iff_iff, List.find?_isSome, List.any_eq_true]
theorem get_mem {l : List It} {b : Int} {y : It} (h : getL l b = some y) : y ∈ l ∧ y.b = b := by
  unfold getL at h
  exact ⟨List.mem_of_find?_eq_some h, by simpa using List.find?_some h⟩
theorem get_of {l : List It} (hs : Sr l) {y : It} (h : y ∈ l) : getL l y.b = some y := by
  obtain ⟨A, B, rfl⟩ := List.append_of_mem h
  rw [Sr, List.pairwise_append, List.pairwise_cons] at hs
  exact get_hit (fun x hx => hs.2.2 x hx y (by simp)) rfl
theorem sr_app {A B : List It} {y : It} {b : Int} (hs : Sr (A ++ B)) (hA : ∀ x ∈ A, x.b < b) (hB : ∀ x ∈ B, b < x.b) (hy : y.b = b) : Sr (A ++ y :: B) := by
  rw [Sr, List.pairwise_append] at hs
  rw [Sr, List.pairwise_append, List.pairwise_cons]
  refine ⟨hs.1, ⟨fun x hx => by have := hB x hx; omega, hs.2.1⟩, fun x hx z hz => ?_⟩
  rcases List.mem_cons.1 hz with rfl | hz
  · have := hA x hx; omega
  · exact hs.2.2 x hx z hz
theorem sr_drop {A B : List It} {y : It} (hs : Sr (A ++ y :: B)) : Sr (A ++ B) := by
  rw [Sr, List.pairwise_append, List.pairwise_cons] at hs
  rw [Sr, List.pairwise_append]
  exact ⟨hs.1, hs.2.1.2, fun x hx z hz => hs.2.2 x hx z (by simp [hz])⟩
/-- the age that a block has, or gets. -/
def agI (l : List It) (b g : Int) : Int := ((getL l b).map It.g).getD g
theorem put_all {l : List It} (hs : Sr l) (b : Int) (d : ByteArray) (g : Int) : Sr (putL b d g l) ∧ (putL b d g l).length = (if hsI l b = true then l.length else l.length + 1) ∧ ∀ x, getL (putL b d g l) x = if x = b then some ⟨b, d, agI l b g⟩ else getL l x := by
  rcases parted b l hs with ⟨A, y, B, rfl, hy, hA, hB⟩ | ⟨A, B, rfl, hA, hB⟩
  · have e := put_hit (B := B) d g hA hy
    have hg : agI (A ++ y :: B) b g = y.g := by unfold agI; rw [get_hit hA hy]; rfl
    rw [e, hs_hit hy, hg]
    refine ⟨sr_app (sr_drop hs) hA hB rfl, by simp, fun x => ?_⟩
    rw [get_app, get_app, get_cons, get_cons]
    by_cases hx : x = b
    · subst hx
      rw [get_none (l := A) (fun z hz => by have := hA z hz; omega), if_pos rfl, if_pos rfl]
      rfl
    · rw [if_neg hx, if_neg (by intro h; exact hx h.symm), if_neg (by intro h; exact hx (by omega))]
  · have e := put_miss d g hA hB
    have hh := hs_miss hA hB
    have hg : agI (A ++ B) b g = g := by unfold agI; rw [get_miss hh]; rfl
    rw [e, hh, hg]
    refine ⟨sr_app hs hA hB rfl, by simp; omega, fun x => ?_⟩
    rw [get_app, get_app, get_cons]
    by_cases hx : x = b
    · subst hx
      rw [get_none (l := A) (fun z hz => by have := hA z hz; omega), if_pos rfl, if_pos rfl]
      rfl
    · rw [if_neg hx, if_neg (by intro h; exact hx h.symm)]
theorem del_all {l : List It} (hs : Sr l) (b : Int) : Sr (delL l b) ∧ (delL l b).length = (if hsI l b = true then l.length - 1 else l.length) ∧ ∀ x, getL (delL l b) x = if x = b then none else getL l x := by
  rcases parted b l hs with ⟨A, y, B, rfl, hy, hA, hB⟩ | ⟨A, B, rfl, hA, hB⟩
  · rw [del_hit hA hy hB, hs_hit hy]
    refine ⟨sr_drop hs, by simp, fun x => ?_⟩
    rw [get_app, get_app, get_cons]
    by_cases hx : x = b
    · subst hx
      rw [if_pos rfl, get_none (l := A) (fun z hz => by have := hA z hz; omega), get_none (l := B) (fun z hz => by have := hB z hz; omega)]
      rfl
    · rw [if_neg hx, if_neg (by intro h; exact hx (by omega))]
  · have hh := hs_miss hA hB
    have hne : ∀ x ∈ A ++ B, x.b ≠ b := fun x hx => by
      rcases List.mem_append.1 hx with hx | hx
      · have := hA x hx; omega
      · have := hB x hx; omega
    rw [filt_all hne, hh]
    refine ⟨hs, by simp, fun x => ?_⟩
    by_cases hx : x = b
    · rw [if_pos hx, hx, get_none hne]
    · rw [if_neg hx]
/-- a Put that is taken. -/
theorem Qg.put {S : QS} (h : Qg S) {b : Int} {d : ByteArray} (e : ptE S b d = 0) (hc : S.c + 1 ≤ 1000000000) : Qg (ptS S b d) := by
  obtain ⟨p1, p2, _⟩ := put_all h.sr b d S.c
  rw [pt_ok e]
  refine ⟨p1, ?_, h.m1, h.m2, by have := h.c0; show 0 ≤ S.c + 1; omega, hc⟩
  show (putL b d S.c S.L).length ≤ S.m
  rw [p2]
  have hl := h.len
  unfold ptE at e
  split at e
  · cases e
  · split at e
    · cases e
    · split at e
      · rename_i q; rw [if_pos q]; exact hl
      · rename_i q
        rw [if_neg q]
        split at e
        · cases e
        · omega
theorem Qg.puts {S : QS} (h : Qg S) (b : Int) (d : ByteArray) (hc : S.c + 1 ≤ 1000000000) : Qg (ptS S b d) := by
  by_cases e : ptE S b d = 0
  · exact h.put e hc
  · rw [pt_no e]; exact h
theorem Qg.take {S : QS} (h : Qg S) (b : Int) : Qg ⟨delL S.L b, S.m, S.c⟩ := by
  obtain ⟨p1, p2, _⟩ := del_all h.sr b
  refine ⟨p1, ?_, h.m1, h.m2, h.c0, h.cm⟩
  show (delL S.L b).length ≤ S.m
  rw [p2]
  have hl := h.len
  split <;> omega
theorem Qg.new (m : Int) : Qg ⟨[], qm m, 0⟩ := ⟨List.Pairwise.nil, by simp, (qm_pos m).1, (qm_pos m).2, by simp, by simp⟩
theorem pt_c (S : QS) (b : Int) (d : ByteArray) : (ptS S b d).c ≤ S.c + 1 ∧ (ptS S b d).m = S.m := by
  unfold ptS
  split
  · exact ⟨Int.le_refl _, rfl⟩
  · exact ⟨by omega, rfl⟩

/-! ### a queue that is filled -/
def fuL (d : ByteArray) (i : Nat) : List It := (List.range i).map (fun (k : Nat) => ⟨2 * (k : Int), d, (k : Int)⟩)
theorem fu_len (d : ByteArray) (i : Nat) : (fuL d i).length = i := by unfold fuL; simp
theorem fu_mem {d : ByteArray} {i : Nat} {x : It} (h : x ∈ fuL d i) : ∃ k : Nat, k < i ∧ x = ⟨2 * (k : Int), d, (k : Int)⟩ := by
  unfold fuL at h
  obtain ⟨k, hk, rfl⟩ := List.mem_map.1 h
  exact ⟨k, List.mem_range.1 hk, rfl⟩
theorem fu_next (d : ByteArray) (i : Nat) : fuL d (i + 1) = fuL d i ++ [⟨2 * (i : Int), d, (i : Int)⟩] := by unfold fuL; rw [List.range_succ, List.map_append]; rfl
theorem fu_no (d : ByteArray) (i : Nat) (b : Int) (h : ∀ k : Nat, k < i → b ≠ 2 * (k : Int)) : hsI (fuL d i) b = false := by
  unfold hsI
  rw [List.any_eq_false]
  intro x hx
  obtain ⟨k, hk, rfl⟩ := fu_mem hx
  have := h k hk
  simp
  omega
theorem fu_put (d : ByteArray) (i : Nat) : putL (2 * (i : Int)) d (i : Int) (fuL d i) = fuL d (i + 1) := by
  rw [fu_next]
  have := put_miss (A := fuL d i) (B := []) (b := 2 * (i : Int)) d (i : Int) (fun x hx => by obtain ⟨k, hk, rfl⟩ := fu_mem hx; show 2 * (k : Int) < 2 * (i : Int); omega) (by simp)
  rwa [List.append_nil] at this
theorem fu_sr (d : ByteArray) : ∀ i, Sr (fuL d i)
  | 0 => List.Pairwise.nil
  | i + 1 => by
    rw [← fu_put]
    exact (put_all (fu_sr d i) _ _ _).1
theorem fu_has (d : ByteArray) (i k : Nat) (h : k < i) : hsI (fuL d i) (2 * (k : Int)) = true := by
  unfold hsI
  rw [List.any_eq_true]
  refine ⟨⟨2 * (k : Int), d, (k : Int)⟩, ?_, by simp⟩
  unfold fuL
  exact List.mem_map.2 ⟨k, List.mem_range.2 h, rfl⟩
theorem fu_g (d : ByteArray) (m i : Nat) (h1 : 1 ≤ m) (h2 : m ≤ 256) (hi : i ≤ m) : Qg ⟨fuL d i, m, i⟩ := ⟨fu_sr d i, by rw [fu_len]; exact hi, h1, h2, by show (0 : Int) ≤ (i : Int); omega, by show (i : Int) ≤ 1000000000; omega⟩
theorem fu_step (d : ByteArray) (m i : Nat) (hd : d.size = 64) (hi : i < m) (hm : m ≤ 256) : ptE ⟨fuL d i, m, i⟩ (2 * (i : Int)) d = 0 ∧ ptS ⟨fuL d i, m, i⟩ (2 * (i : Int)) d = ⟨fuL d (i + 1), m, ((i + 1 : Nat) : Int)⟩ := by
  have e : ptE ⟨fuL d i, m, i⟩ (2 * (i : Int)) d = 0 := by
    unfold ptE
    rw [if_neg (by omega), if_neg (by simp [hd]), if_neg (by rw [fu_no d i _ (fun k hk => by omega)]; decide), if_neg (by show ¬ m ≤ (fuL d i).length; rw [fu_len]; omega)]
  refine ⟨e, ?_⟩
  rw [pt_ok e]
  show QS.mk (putL (2 * (i : Int)) d (i : Int) (fuL d i)) m ((i : Int) + 1) = _
  rw [fu_put]
  rfl

end Go.Proofs.Ytdfdoinhkjoalaa
