/-
  A region that draws its order, whose last operation waits for all others: what the others come to in a class of worlds, then the last one. No condition but closed facts on the region.
-/
import Derived.Test.YtffbachgbcefiaaDoorBufCls
import Derived.Deep.Quiet
import Derived.BigQuiet
namespace Go.Proofs.YtffbachgbcefiaaDoor
open Go.RowKit

/-- no guard; each waits for earlier ones alone; the last one for every earlier one. -/
def tailB (l : List Oper) (o : Oper) : Bool :=
  l.all (fun x => x.guard.isNone) && o.guard.isNone &&
  (List.range l.length).all (fun j => match l[j]? with | some x => x.after.all fun e => decide (e.on < j) | none => true) &&
  o.after.all (fun e => decide (e.on < l.length)) &&
  (List.range l.length).all (fun j => o.after.any fun e => Region.binds .any e && e.on == j)
theorem wanted_none {o : Oper} (h : o.guard.isNone = true) (y : Nat → Option Bool) : Region.wanted o y = true := by
  unfold Region.wanted
  cases hg : o.guard with
  | none => rfl
  | some g => rw [hg] at h; cases h
theorem push_set (L : Array Bool) (i : Nat) (h : i < L.size) : (L.push false).setIfInBounds i true = (L.setIfInBounds i true).push false := by
  apply Array.ext_getElem?
  intro j
  rw [Array.getElem?_setIfInBounds, Array.getElem?_push, Array.getElem?_push, Array.getElem?_setIfInBounds, Array.size_setIfInBounds, Array.size_push]
  by_cases e : i = j
  · subst e
    rw [if_pos rfl, if_pos (by omega), if_neg (by omega), if_pos rfl, if_pos h]
  · rw [if_neg e, if_neg e]
theorem push_head (L : Array Bool) (b : Bool) (i : Nat) (h : i < L.size) : (L.push false).getD i b = L.getD i b := by
  rw [Array.getD_eq_getD_getElem?, Array.getD_eq_getD_getElem?, Array.getElem?_push, if_neg (by omega)]
theorem push_last (L : Array Bool) (b : Bool) : (L.push false).getD L.size b = false := by
  rw [Array.getD_eq_getD_getElem?, Array.getElem?_push, if_pos rfl]; rfl
theorem push_over (L : Array Bool) (i : Nat) (h : L.size < i) : (L.push false).getD i true = true := by
  rw [Array.getD_eq_getD_getElem?, Array.getElem?_push, if_neg (by omega), Array.getElem?_eq_none (by omega)]; rfl
/-- how many have not come up. -/
def left (L : Array Bool) : Nat := L.toList.count false
theorem left_zero {L : Array Bool} (h : left L = 0) (i : Nat) (hi : i < L.size) (b : Bool) : L.getD i b = true := by
  unfold left at h
  rw [List.count_eq_zero] at h
  rw [Array.getD_eq_getD_getElem?, Array.getElem?_eq_getElem hi]
  cases e : L[i] with
  | true => rfl
  | false => exact absurd (by rw [← e]; simp) h
theorem left_pos {L : Array Bool} (h : 0 < left L) : ∃ m, m < L.size ∧ L.getD m true = false ∧ ∀ i, i < m → L.getD i false = true := by
  unfold left at h
  obtain ⟨m, hm, h1⟩ := List.getElem_of_mem (List.count_pos_iff.1 h)
  have key : ∀ k, (∃ m, m < k ∧ m < L.size ∧ L.getD m true = false) → ∃ m, m < L.size ∧ L.getD m true = false ∧ ∀ i, i < m → L.getD i false = true := by
    intro k
    induction k with
    | zero => rintro ⟨m, h, _⟩; omega
    | succ k ih =>
      rintro ⟨m, h1, h2, h3⟩
      by_cases hx : ∃ m, m < k ∧ m < L.size ∧ L.getD m true = false
      · exact ih hx
      · refine ⟨m, h2, h3, fun i hi => ?_⟩
        have hi2 : i < L.size := by omega
        cases e : L[i] with
        | true => rw [Array.getD_eq_getD_getElem?, Array.getElem?_eq_getElem hi2, e]; rfl
        | false => exact absurd ⟨i, by omega, hi2, by rw [Array.getD_eq_getD_getElem?, Array.getElem?_eq_getElem hi2, e]; rfl⟩ hx
  have hm2 : m < L.size := by simpa using hm
  exact key (m + 1) ⟨m, by omega, hm2, by rw [Array.getD_eq_getD_getElem?, Array.getElem?_eq_getElem hm2]; simpa using h1⟩
theorem left_set {L : Array Bool} {i : Nat} (hi : i < L.size) (h : L.getD i true = false) : left (L.setIfInBounds i true) + 1 = left L := by
  have h1 : L[i] = false := by
    rw [Array.getD_eq_getD_getElem?, Array.getElem?_eq_getElem hi] at h
    simpa using h
  have hp : 0 < L.toList.count false := List.count_pos_iff.2 (by rw [← h1]; simp)
  unfold left
  have h2 : L.toList[i]'(by simpa using hi) = false := by simpa using h1
  rw [Array.toList_setIfInBounds, List.count_set (by simpa using hi), h2]
  show L.toList.count false - 1 + 0 + 1 = L.toList.count false
  omega

theorem any_tail {P : Program} {l : List Oper} {o : Oper} {C : World → Prop} {Q : Exit → Act → World → Prop} {Qa : Act → Prop} (hB : tailB l o = true)
    (hQ : ∀ a w, C w → Qa a → wpOp P (l ++ [o]).toArray Q l.length (fun a w => Q .normal a w) a w) :
    ∀ (f : Nat) (L : Array Bool) (a : Act) (w : World), C w → L.size = l.length → left L = f → wpAnyQ P .any l.toArray C Qa f L a → wpAny P .any (l ++ [o]).toArray Q (f + 1) (L.push false) a w := by
  unfold tailB at hB
  simp only [Bool.and_eq_true, List.all_eq_true, List.mem_range] at hB
  obtain ⟨⟨⟨⟨hg, hgo⟩, hbk⟩, hbo⟩, hwt⟩ := hB
  have hat : ∀ j, j < l.length → (l ++ [o]).toArray[j]? = l[j]? := fun j hj => by simp [List.getElem?_append_left hj]
  have hlast : (l ++ [o]).toArray[l.length]? = some o := by simp
  have hbk2 : ∀ (j : Nat) (x : Oper), l[j]? = some x → ∀ e ∈ x.after, e.on < j := fun j x hx e he => by
    have hj : j < l.length := (List.getElem?_eq_some_iff.1 hx).1
    have := hbk j hj
    rw [hx] at this
    exact of_decide_eq_true (Array.all_eq_true_iff_forall_mem.1 this e he)
  have hbo2 : ∀ e ∈ o.after, e.on < l.length := fun e he => of_decide_eq_true (Array.all_eq_true_iff_forall_mem.1 hbo e he)
  intro f
  induction f with
  | zero =>
    intro L a w hw hL hf h
    have hall : ∀ i, i < l.length → ∀ b, L.getD i b = true := fun i hi b => left_zero hf i (by omega) b
    have hr : l.length ∈ Region.ready .any (l ++ [o]).toArray (L.push false) := by
      rw [mem_ready]
      refine ⟨by rw [← hL]; exact push_last L true, o, hlast, fun e he _ => ?_⟩
      have := hbo2 e he
      rw [push_head L false e.on (by omega)]
      exact hall _ this _
    refine ⟨fun h0 => (by rw [h0] at hr; cases hr), fun i hi => ?_⟩
    obtain rfl : i = l.length := by
      have h1 := (mem_ready.1 hi).1
      rcases Nat.lt_trichotomy i l.length with h2 | h2 | h2
      · rw [push_head L true i (by omega), hall i h2] at h1; cases h1
      · exact h2
      · rw [push_over L i (by omega)] at h1; cases h1
    refine wpOp_mono (fun a w h2 => ⟨?_, h2⟩) (hQ a w hw h.2)
    apply List.eq_nil_iff_forall_not_mem.2
    intro j hj
    have h1 := (mem_ready.1 hj).1
    rw [Array.getD_eq_getD_getElem?, Array.getElem?_setIfInBounds, Array.size_push] at h1
    rcases Nat.lt_trichotomy j l.length with h2 | h2 | h2
    · rw [if_neg (by omega), ← Array.getD_eq_getD_getElem?, push_head L true j (by omega), hall j h2] at h1; cases h1
    · rw [if_pos h2.symm, if_pos (by omega)] at h1; cases h1
    · rw [if_neg (by omega), ← Array.getD_eq_getD_getElem?, push_over L j (by omega)] at h1; cases h1
  | succ f ih =>
    intro L a w hw hL hf h
    obtain ⟨m, hm, hm1, hm2⟩ := left_pos (L := L) (by omega)
    have hml : m < l.length := by omega
    have hr : m ∈ Region.ready .any (l ++ [o]).toArray (L.push false) := by
      rw [mem_ready]
      refine ⟨by rw [push_head L true m hm]; exact hm1, l[m], by rw [hat m hml]; exact List.getElem?_eq_getElem hml, fun e he _ => ?_⟩
      have := hbk2 m _ (List.getElem?_eq_getElem hml) e he
      rw [push_head L false e.on (by omega)]
      exact hm2 _ this
    refine ⟨fun h0 => (by rw [h0] at hr; cases hr), fun i hi => ?_⟩
    obtain ⟨h1, x, hx, hall⟩ := mem_ready.1 hi
    have hil : i < l.length := by
      rcases Nat.lt_trichotomy i l.length with h2 | h2 | h2
      · exact h2
      · subst h2
        rw [hlast] at hx
        obtain rfl := Option.some.inj hx
        obtain ⟨e, he, hb⟩ := Array.any_eq_true'.1 (hwt m hml)
        simp only [Bool.and_eq_true, beq_iff_eq] at hb
        have h3 := hall e he hb.1
        rw [hb.2, push_head L false m hm] at h3
        rw [Array.getD_eq_getD_getElem?, Array.getElem?_eq_getElem hm] at h3 hm1
        simp at h3 hm1
        rw [h3] at hm1; cases hm1
      · rw [push_over L i (by omega)] at h1; cases h1
    rw [hat i hil] at hx
    rw [push_head L true i (by omega)] at h1
    have hri : i ∈ Region.ready .any l.toArray L := by
      rw [mem_ready]
      refine ⟨h1, x, by simpa using hx, fun e he hb => ?_⟩
      have h3 := hall e he hb
      have := hbk2 i x hx e he
      rw [push_head L false e.on (by omega)] at h3
      exact h3
    have hq := h.2 i hri
    unfold qOp at hq
    unfold wpOp
    rw [show l.toArray[i]? = some x by simpa using hx] at hq
    rw [show (l ++ [o]).toArray[i]? = some x by rw [hat i hil]; exact hx]
    have hgx : x.guard.isNone = true := hg x (List.mem_of_getElem? hx)
    simp only [wanted_none hgx, if_true] at hq ⊢
    refine .inl (Oper.wp_of_quiet hw (fun a' w' hw' hK => ?_) hq)
    rw [push_set L i (by omega)]
    exact ih _ a' w' hw' (by rw [Array.size_setIfInBounds]; exact hL) (by have := left_set (L := L) (i := i) (by omega) h1; omega) hK

/-- the region's law. -/
theorem wp_region_tail {P : Program} {id : Nat} {Q : Exit → Act → World → Prop} {a : Act} {w : World} (l : List Oper) (o : Oper) (ops : Array Oper) (hops : ops = (l ++ [o]).toArray) (hm : P.follows .mixedOrders = true) (hX : Region.lexB .any l.toArray = true) (hB : tailB l o = true)
    (h : wpQuiet P l.toArray (fun w' => ∃ p, w' = kpw w p) (fun a' => ∀ w', (∃ p, w' = kpw w p) → wpOp P (l ++ [o]).toArray Q l.length (fun a w => Q .normal a w) a' w') l a) : (Code.region id ops true).wp P Q a w := by
  subst hops
  refine wp_region_any hm ?_
  simp only [Region.lexB, Bool.and_eq_true] at hX
  have H := wpAnyQ_lex (C := fun w' => ∃ p, w' = kpw w p) (md := .any) hX.1 l 0 (Array.replicate l.toArray.size false) a (by simp) (by simpa using hX.2) h
  have := any_tail (P := P) (Q := Q) (C := fun w' => ∃ p, w' = kpw w p) (Qa := fun a' => ∀ w', (∃ p, w' = kpw w p) → wpOp P (l ++ [o]).toArray Q l.length (fun a w => Q .normal a w) a' w') hB (fun a w hw h => h w hw) l.length (Array.replicate l.toArray.size false) a w.drew (kpw_of (Kp.refl w).drew) (by simp) (by unfold left; simp) (by simpa using H)
  rw [show (l ++ [o]).toArray.size = l.length + 1 by simp]
  rw [show Array.replicate (l.length + 1) false = (Array.replicate l.toArray.size false).push false by simp [Array.replicate_succ]]
  exact this

theorem wp_region_tail2 {P : Program} {id : Nat} {Q : Exit → Act → World → Prop} {a : Act} {w : World} {l0 : List Oper} {o : Oper} (ho : l0.getLast? = some o) (hm : P.follows .mixedOrders = true) (hX : Region.lexB .any l0.dropLast.toArray = true) (hB : tailB l0.dropLast o = true)
    (h : wpQuiet P l0.dropLast.toArray (fun w' => ∃ p, w' = kpw w p) (fun a' => ∀ w', (∃ p, w' = kpw w p) → wpList P l0.toArray Q [o] a' w') l0.dropLast a) : (Code.region id l0.toArray true).wp P Q a w := by
  have e : l0 = l0.dropLast ++ [o] := by
    have hne : l0 ≠ [] := fun h => by rw [h] at ho; cases ho
    have h1 := List.dropLast_concat_getLast hne
    rw [List.getLast?_eq_some_getLast hne] at ho
    rw [Option.some.inj ho] at h1
    exact h1.symm
  refine wp_region_tail l0.dropLast o l0.toArray (by rw [← e]) hm hX hB ?_
  rw [← e]
  have key : ∀ a' w', wpList P l0.toArray Q [o] a' w' → wpOp P l0.toArray Q l0.dropLast.length (fun a w => Q .normal a w) a' w' := fun a' w' h => by
    have h0 : l0.toArray[l0.dropLast.length]? = some o := by
      have : (l0.dropLast ++ [o])[l0.dropLast.length]? = some o := by simp
      rw [← e] at this
      simpa using this
    unfold wpOp
    simp only [h0]
    exact h
  have mono : ∀ (K K' : Act → Prop), (∀ a, K a → K' a) → ∀ (l : List Oper) (a : Act), wpQuiet P l0.dropLast.toArray (fun w' => ∃ p, w' = kpw w p) K l a → wpQuiet P l0.dropLast.toArray (fun w' => ∃ p, w' = kpw w p) K' l a := by
    intro K K' hK l
    induction l with
    | nil => exact fun a h => hK a h
    | cons x l ih =>
      intro a h
      unfold wpQuiet at h ⊢
      split
      · rename_i hw
        rw [if_pos hw] at h
        exact Oper.quiet_mono (fun a h => ih a h) h
      · rename_i hw
        rw [if_neg hw] at h
        exact ih _ h
  exact mono _ _ (fun a' h w' hw' => key a' w' (h w' hw')) _ _ h

end Go.Proofs.YtffbachgbcefiaaDoor
