/-
  Contract of the document's Both and Change: the list of the places of two lists, by kind. Conditions: that the lists' cells hold the spans, and that they are good.
-/
import Derived.Test.YtmkmejdbhikomaaSpEnds
import Derived.Test.YtmkmejdbhikomaaSpHas
namespace Go.Proofs.Ytmkmejdbhikomaa
open Go.RowKit Plain
set_option linter.unusedVariables false

def kF (kd : Int) (a b : Bool) : Bool := if kd = 1 then a && !b else if kd = 2 then a && b else if kd = 3 then b && !a else a || b
theorem kF_none (kd : Int) : kF kd false false = false := by unfold kF; split <;> (try split) <;> (try split) <;> rfl
/-- the ends of two good lists, by number. -/
structure Ed (l m : List (Int × Int)) (n : Nat) (e : Nat → Int) : Prop where
  gl : G l
  gm : G m
  inc : ∀ a b, a < b → b < n → e a < e b
  mem : ∀ p, p ∈ l ∨ p ∈ m → (∃ a, a < n ∧ e a = p.1) ∧ ∃ a, a < n ∧ e a = p.2
  low : ∀ a, a < n → 0 ≤ e a
theorem Ed.of {l m : List (Int × Int)} (gl : G l) (gm : G m) {E : List Int} (hp : E.Pairwise (· < ·)) (hm : ∀ x, x ∈ E ↔ x ∈ en l ++ en m) : Ed l m E.length (fun j => E.getD j 0) := by
  have hat : ∀ j (h : j < E.length), E.getD j 0 = E[j] := fun j h => by simp [h]
  have hin : ∀ x, x ∈ E → ∃ a, a < E.length ∧ E.getD a 0 = x := fun x hx => by
    obtain ⟨a, ha, rfl⟩ := List.getElem_of_mem hx
    exact ⟨a, ha, hat a ha⟩
  refine ⟨gl, gm, fun a b hab hb => ?_, fun p hpm => ?_, fun a ha => ?_⟩
  · show E.getD a 0 < E.getD b 0
    rw [hat a (by omega), hat b hb]
    exact List.pairwise_iff_getElem.1 hp a b (by omega) hb hab
  · constructor
    · refine hin p.1 ((hm _).2 (List.mem_append.2 ?_))
      rcases hpm with h | h
      · exact .inl ((en_mem l _).2 ⟨p, h, .inl rfl⟩)
      · exact .inr ((en_mem m _).2 ⟨p, h, .inl rfl⟩)
    · refine hin p.2 ((hm _).2 (List.mem_append.2 ?_))
      rcases hpm with h | h
      · exact .inl ((en_mem l _).2 ⟨p, h, .inr rfl⟩)
      · exact .inr ((en_mem m _).2 ⟨p, h, .inr rfl⟩)
  · have h1 : E.getD a 0 ∈ E := by rw [hat a ha]; exact List.getElem_mem ha
    have h2 := (hm _).1 h1
    show 0 ≤ E.getD a 0
    rcases List.mem_append.1 h2 with h | h
    · obtain ⟨p, hp, h⟩ := (en_mem l _).1 h
      have := gl.lo p hp
      omega
    · obtain ⟨p, hp, h⟩ := (en_mem m _).1 h
      have := gm.lo p hp
      omega
theorem Ed.le {l m : List (Int × Int)} {n : Nat} {e : Nat → Int} (h : Ed l m n e) {a b : Nat} (hb : b < n) (ha : a < n) (hl : e a < e b) : a < b := by
  apply Nat.lt_of_not_le
  intro hh
  by_cases e1 : b = a
  · subst e1; omega
  · have := h.inc b a (by omega) ha; omega
theorem Ed.same {l m : List (Int × Int)} {n : Nat} {e : Nat → Int} (h : Ed l m n e) {i : Nat} (hi : i + 1 < n) {k : List (Int × Int)} (hk : ∀ p ∈ k, p ∈ l ∨ p ∈ m) {x : Int} (h1 : e i ≤ x) (h2 : x < e (i + 1)) : hs k x = hs k (e i) := by
  rw [Bool.eq_iff_iff, hs_iff, hs_iff]
  constructor
  · rintro ⟨p, hp, q1, q2⟩
    obtain ⟨⟨a, ha, ea⟩, b, hb, eb⟩ := h.mem p (hk p hp)
    refine ⟨p, hp, ?_, by omega⟩
    have : a < i + 1 := h.le hi ha (by omega)
    by_cases e1 : a = i
    · rw [← ea, e1]; exact Int.le_refl _
    · have := h.inc a i (by omega) (by omega); omega
  · rintro ⟨p, hp, q1, q2⟩
    obtain ⟨⟨a, ha, ea⟩, b, hb, eb⟩ := h.mem p (hk p hp)
    refine ⟨p, hp, by omega, ?_⟩
    have : i < b := h.le hb (by omega) (by omega)
    by_cases e1 : b = i + 1
    · rw [← eb, e1]; exact h2
    · have := h.inc (i + 1) b (by omega) hb; omega
theorem Ed.below {l m : List (Int × Int)} {n : Nat} {e : Nat → Int} (h : Ed l m n e) (hn : 0 < n) {k : List (Int × Int)} (hk : ∀ p ∈ k, p ∈ l ∨ p ∈ m) {x : Int} (h1 : x < e 0) : hs k x = false := by
  rw [Bool.eq_false_iff, ne_eq, hs_iff]
  rintro ⟨p, hp, q1, q2⟩
  obtain ⟨⟨a, ha, ea⟩, _⟩ := h.mem p (hk p hp)
  by_cases e1 : a = 0
  · rw [e1] at ea; omega
  · have := h.inc 0 a (by omega) ha; omega
theorem Ed.above {l m : List (Int × Int)} {n : Nat} {e : Nat → Int} (h : Ed l m n e) (hn : 0 < n) {k : List (Int × Int)} (hk : ∀ p ∈ k, p ∈ l ∨ p ∈ m) {x : Int} (h1 : e (n - 1) ≤ x) : hs k x = false := by
  rw [Bool.eq_false_iff, ne_eq, hs_iff]
  rintro ⟨p, hp, q1, q2⟩
  obtain ⟨_, a, ha, ea⟩ := h.mem p (hk p hp)
  by_cases e1 : a = n - 1
  · rw [e1] at ea; omega
  · have := h.inc a (n - 1) (by omega) (by omega); omega
theorem Ed.empty {l m : List (Int × Int)} {e : Nat → Int} (h : Ed l m 0 e) {k : List (Int × Int)} (hk : ∀ p ∈ k, p ∈ l ∨ p ∈ m) (x : Int) : hs k x = false := by
  rw [Bool.eq_false_iff, ne_eq, hs_iff]
  rintro ⟨p, hp, _⟩
  obtain ⟨⟨a, ha, _⟩, _⟩ := h.mem p (hk p hp)
  omega
/-- Both, part of the way. -/
structure BI (l m : List (Int × Int)) (kd : Int) (e : Nat → Int) (i : Nat) (J : List (Int × Int)) : Prop where
  nb : Nb (-1) J
  hi : ∀ p ∈ J, p.2 ≤ e i
  same : ∀ x, hs J x = (decide (x < e i) && kF kd (hs l x) (hs m x))
  len : J.length ≤ i
theorem BI.start {l m : List (Int × Int)} {n : Nat} {e : Nat → Int} (h : Ed l m n e) (hn : 0 < n) (kd : Int) : BI l m kd e 0 [] := by
  refine ⟨trivial, fun p hp => by simp at hp, fun x => ?_, by simp⟩
  by_cases hx : x < e 0
  · rw [h.below hn (k := l) (fun p hp => .inl hp) hx, h.below hn (k := m) (fun p hp => .inr hp) hx, kF_none, Bool.and_false]; rfl
  · rw [decide_eq_false hx]; rfl
theorem BI.skip {l m : List (Int × Int)} {n : Nat} {e : Nat → Int} (h : Ed l m n e) {kd : Int} {i : Nat} (hi : i + 1 < n) {J : List (Int × Int)} (b : BI l m kd e i J) (hf : kF kd (hs l (e i)) (hs m (e i)) = false) : BI l m kd e (i + 1) J := by
  have hlt := h.inc i (i + 1) (by omega) hi
  refine ⟨b.nb, fun p hp => by have := b.hi p hp; omega, fun x => ?_, by have := b.len; omega⟩
  rw [b.same x]
  by_cases h1 : x < e i
  · rw [decide_eq_true h1, decide_eq_true (show x < e (i + 1) by omega)]
  · rw [decide_eq_false h1, Bool.false_and]
    by_cases h2 : x < e (i + 1)
    · rw [h.same hi (k := l) (fun p hp => .inl hp) (by omega) h2, h.same hi (k := m) (fun p hp => .inr hp) (by omega) h2, hf, Bool.and_false]
    · rw [decide_eq_false h2, Bool.false_and]
theorem BI.add {l m : List (Int × Int)} {n : Nat} {e : Nat → Int} (h : Ed l m n e) {kd : Int} {i : Nat} (hi : i + 1 < n) {J : List (Int × Int)} (b : BI l m kd e i J) (hf : kF kd (hs l (e i)) (hs m (e i)) = true) : BI l m kd e (i + 1) (strL J (e i, e (i + 1))) := by
  have hlt := h.inc i (i + 1) (by omega) hi
  have hlo := h.low i (by omega)
  obtain ⟨s1, s2, s3, s4, s5, s6⟩ := str_ok b.nb (s := (e i, e (i + 1))) (by show -1 < e i; omega) hlt (fun p hp => by have h1 := b.hi p hp; have h2 := (b.nb.mem p hp).2; show p.1 ≤ e i; omega)
  refine ⟨s1, s4 (e (i + 1)) (fun p hp => by have := b.hi p hp; omega) (Int.le_refl _), fun x => ?_, by have := b.len; omega⟩
  rw [s2 x, b.same x]
  by_cases h1 : x < e i
  · rw [decide_eq_true h1, decide_eq_true (show x < e (i + 1) by omega), show inS (e i, e (i + 1)) x = false from by rw [Bool.eq_false_iff, ne_eq, inS_iff]; show ¬ (e i ≤ x ∧ _); omega]
    simp
  · rw [decide_eq_false h1, Bool.false_and, Bool.false_or]
    by_cases h2 : x < e (i + 1)
    · rw [h.same hi (k := l) (fun p hp => .inl hp) (by omega) h2, h.same hi (k := m) (fun p hp => .inr hp) (by omega) h2, hf, decide_eq_true h2, (inS_iff _ _).2 ⟨by show e i ≤ x; omega, h2⟩]; rfl
    · rw [decide_eq_false h2, Bool.false_and, show inS (e i, e (i + 1)) x = false from by rw [Bool.eq_false_iff, ne_eq, inS_iff]; show ¬ (_ ∧ x < e (i + 1)); omega]
theorem BI.done {l m : List (Int × Int)} {n : Nat} {e : Nat → Int} (h : Ed l m n e) (hn : 0 < n) {kd : Int} {J : List (Int × Int)} (b : BI l m kd e (n - 1) J) : G J ∧ ∀ x, hs J x = kF kd (hs l x) (hs m x) := by
  have hx : ∀ x, hs J x = kF kd (hs l x) (hs m x) := fun x => by
    rw [b.same x]
    by_cases h1 : x < e (n - 1)
    · rw [decide_eq_true h1, Bool.true_and]
    · rw [decide_eq_false h1, h.above hn (k := l) (fun p hp => .inl hp) (by omega), h.above hn (k := m) (fun p hp => .inr hp) (by omega), kF_none]; rfl
  refine ⟨G.of_hs b.nb (fun x hh => ?_), hx⟩
  rw [hx] at hh
  cases h1 : hs l x with
  | true => exact h.gl.places h1
  | false =>
    cases h2 : hs m x with
    | true => exact h.gm.places h2
    | false => rw [h1, h2, kF_none] at hh; cases hh
theorem BI.last {l m : List (Int × Int)} {kd : Int} {e : Nat → Int} {i : Nat} {J : List (Int × Int)} (b : BI l m kd e i J) (h0 : 0 < J.length) : (lastS J).2 ≤ e i := b.hi _ (by
  obtain ⟨K, hK, _⟩ := last_split J (by omega)
  rw [hK]; simp [lastS])

end Go.Proofs.Ytmkmejdbhikomaa
