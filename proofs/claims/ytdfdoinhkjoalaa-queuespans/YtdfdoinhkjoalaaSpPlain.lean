/-
  Plain facts on lists of spans: the places that they have (hs), lists that rise and don't touch (Nb), that such a list is fixed by its places (hs_one), and what the calls of layer 8 come to. No condition.
-/
import Derived.Test.YtdfdoinhkjoalaaShr
namespace Go.Proofs.Ytdfdoinhkjoalaa.Plain
set_option linter.unusedVariables false

def hs : List (Int × Int) → Int → Bool
  | [], _ => false
  | p :: l, x => (decide (p.1 ≤ x) && decide (x < p.2)) || hs l x
def Nb : Int → List (Int × Int) → Prop
  | _, [] => True
  | e, p :: l => e < p.1 ∧ p.1 < p.2 ∧ Nb p.2 l
theorem hs_app : ∀ (l m : List (Int × Int)) (x : Int), hs (l ++ m) x = (hs l x || hs m x)
  | [], m, x => by simp [hs]
  | p :: l, m, x => by simp only [List.cons_append, hs, hs_app l m x, Bool.or_assoc]
theorem hs_iff : ∀ (l : List (Int × Int)) (x : Int), hs l x = true ↔ ∃ p ∈ l, p.1 ≤ x ∧ x < p.2
  | [], x => by simp [hs]
  | p :: l, x => by
    simp only [hs, Bool.or_eq_true, Bool.and_eq_true, decide_eq_true_eq, hs_iff l x, List.mem_cons]
    constructor
    · rintro (h | ⟨q, h1, h2⟩)
      · exact ⟨p, .inl rfl, h⟩
      · exact ⟨q, .inr h1, h2⟩
    · rintro ⟨q, rfl | h1, h2⟩
      · exact .inl h2
      · exact .inr ⟨q, h1, h2⟩
theorem Nb.weak {e e' : Int} {l : List (Int × Int)} (h : Nb e l) (he : e' ≤ e) : Nb e' l := by
  cases l with
  | nil => trivial
  | cons p l => exact ⟨by have := h.1; omega, h.2⟩
theorem Nb.mem {e : Int} : ∀ {l : List (Int × Int)}, Nb e l → ∀ p ∈ l, e < p.1 ∧ p.1 < p.2
  | [], _, p, hp => by simp at hp
  | q :: l, h, p, hp => by
    rcases List.mem_cons.1 hp with rfl | hp
    · exact ⟨h.1, h.2.1⟩
    · have := Nb.mem h.2.2 p hp
      have h1 := h.1
      have h2 := h.2.1
      omega
theorem Nb.low {e : Int} {l : List (Int × Int)} (h : Nb e l) {x : Int} (hx : hs l x = true) : e < x := by
  obtain ⟨p, hp, h1, _⟩ := (hs_iff l x).1 hx
  have := h.mem p hp
  omega
theorem Nb.not {e : Int} {l : List (Int × Int)} (h : Nb e l) {x : Int} (hx : x ≤ e) : hs l x = false := by
  cases hh : hs l x with
  | false => rfl
  | true => have := h.low hh; omega
theorem Nb.of_low {e c : Int} {l : List (Int × Int)} (h : Nb e l) (hc : ∀ p ∈ l, c < p.1) : Nb c l := by
  cases l with
  | nil => trivial
  | cons p l => exact ⟨hc p (by simp), h.2⟩
theorem Nb.append {e c : Int} : ∀ {A B : List (Int × Int)}, Nb e A → Nb c B → (∀ p ∈ A, p.2 ≤ c) → e ≤ c → Nb e (A ++ B)
  | [], B, _, h2, _, h4 => h2.weak h4
  | p :: A, B, h1, h2, h3, h4 => ⟨h1.1, h1.2.1, Nb.append h1.2.2 h2 (fun q hq => h3 q (by simp [hq])) (h3 p (by simp))⟩
theorem Nb.left {e : Int} : ∀ {A B : List (Int × Int)}, Nb e (A ++ B) → Nb e A
  | [], B, _ => trivial
  | p :: A, B, h => ⟨h.1, h.2.1, Nb.left (B := B) h.2.2⟩
theorem Nb.right {e : Int} : ∀ {A B : List (Int × Int)}, Nb e (A ++ B) → Nb e B
  | [], B, h => h
  | p :: A, B, h => (Nb.right (A := A) h.2.2).weak (by have h1 := h.1; have h2 := h.2.1; omega)
theorem Nb.sep {e : Int} : ∀ {A B : List (Int × Int)}, Nb e (A ++ B) → ∀ p ∈ A, ∀ q ∈ B, p.2 < q.1
  | [], B, _, p, hp, _, _ => by simp at hp
  | r :: A, B, h, p, hp, q, hq => by
    rcases List.mem_cons.1 hp with rfl | hp
    · exact ((Nb.right (A := A) h.2.2).mem q hq).1
    · exact Nb.sep h.2.2 p hp q hq
theorem Nb.take {e : Int} {l : List (Int × Int)} (h : Nb e l) (i : Nat) : Nb e (l.take i) := by
  rw [← List.take_append_drop i l] at h
  exact h.left
theorem Nb.drop {e : Int} {l : List (Int × Int)} (h : Nb e l) (i : Nat) : Nb e (l.drop i) := by
  rw [← List.take_append_drop i l] at h
  exact h.right
/-- a list that rises and doesn't touch is fixed by its places. -/
theorem hs_one : ∀ {l m : List (Int × Int)} {e e' : Int}, Nb e l → Nb e' m → (∀ x, hs l x = hs m x) → l = m
  | [], [], _, _, _, _, _ => rfl
  | [], q :: m, _, _, _, h2, hx => by
    have := hx q.1
    have h := h2.2.1
    simp [hs, h] at this
  | p :: l, [], _, _, h1, _, hx => by
    have := hx p.1
    have h := h1.2.1
    simp [hs, h] at this
  | p :: l, q :: m, e, e', h1, h2, hx => by
    have a1 := h1.2.1
    have a2 := h2.2.1
    have lo1 : ∀ x, hs (p :: l) x = true → p.1 ≤ x := fun x h => by
      simp only [hs, Bool.or_eq_true, Bool.and_eq_true, decide_eq_true_eq] at h
      rcases h with h | h
      · exact h.1
      · have := h1.2.2.low h; omega
    have lo2 : ∀ x, hs (q :: m) x = true → q.1 ≤ x := fun x h => by
      simp only [hs, Bool.or_eq_true, Bool.and_eq_true, decide_eq_true_eq] at h
      rcases h with h | h
      · exact h.1
      · have := h2.2.2.low h; omega
    have in1 : hs (p :: l) p.1 = true := by simp [hs, a1]
    have in2 : hs (q :: m) q.1 = true := by simp [hs, a2]
    have e1 : p.1 = q.1 := by
      have t1 := lo2 p.1 (by rw [← hx]; exact in1)
      have t2 := lo1 q.1 (by rw [hx]; exact in2)
      omega
    have n1 : hs (p :: l) p.2 = false := by simp [hs, h1.2.2.not (Int.le_refl _)]
    have n2 : hs (q :: m) q.2 = false := by simp [hs, h2.2.2.not (Int.le_refl _)]
    have e2 : p.2 = q.2 := by
      have t1 := hx p.2
      have t2 := hx q.2
      rw [n1] at t1
      rw [n2] at t2
      by_cases c1 : p.2 < q.2
      · simp [hs, c1, show q.1 ≤ p.2 by omega] at t1
      · by_cases c2 : q.2 < p.2
        · simp [hs, c2, show p.1 ≤ q.2 by omega] at t2
        · omega
    have e3 : p = q := Prod.ext e1 e2
    subst e3
    congr 1
    refine hs_one h1.2.2 h2.2.2 (fun x => ?_)
    by_cases c : x ≤ p.2
    · rw [h1.2.2.not c, h2.2.2.not c]
    · have := hx x
      simpa [hs, show ¬ (x < p.2) by omega] using this

/-! ### which spans and lists are good -/
def mA : Int := 1099511627776
def gd (p : (Int × Int)) : Bool := decide (0 ≤ p.1) && (decide (p.1 < p.2) && decide (p.2 ≤ mA))
theorem gd_iff (p : (Int × Int)) : gd p = true ↔ 0 ≤ p.1 ∧ p.1 < p.2 ∧ p.2 ≤ mA := by simp [gd]
def gB : Int → List (Int × Int) → Bool
  | _, [] => true
  | e, p :: l => gd p && (decide (e < p.1) && gB p.2 l)
def gL (l : List (Int × Int)) : Bool := gB (-1) l
structure G (l : List (Int × Int)) : Prop where
  nb : Nb (-1) l
  hi : ∀ p ∈ l, p.2 ≤ mA
theorem gB_iff : ∀ (l : List (Int × Int)) (e : Int), -1 ≤ e → (gB e l = true ↔ Nb e l ∧ ∀ p ∈ l, p.2 ≤ mA)
  | [], e, _ => by simp [gB, Nb]
  | p :: l, e, he => by
    simp only [gB, Bool.and_eq_true, decide_eq_true_eq, gd_iff, Nb, List.mem_cons]
    constructor
    · rintro ⟨⟨h1, h2, h3⟩, h4, h5⟩
      obtain ⟨h6, h7⟩ := (gB_iff l p.2 (by omega)).1 h5
      exact ⟨⟨h4, h2, h6⟩, fun q hq => hq.elim (fun e => by rw [e]; exact h3) (h7 q)⟩
    · rintro ⟨⟨h4, h2, h6⟩, h7⟩
      exact ⟨⟨by omega, h2, h7 p (.inl rfl)⟩, h4, (gB_iff l p.2 (by omega)).2 ⟨h6, fun q hq => h7 q (.inr hq)⟩⟩
theorem gL_iff (l : List (Int × Int)) : gL l = true ↔ G l := (gB_iff l (-1) (by omega)).trans ⟨fun h => ⟨h.1, h.2⟩, fun h => ⟨h.nb, h.hi⟩⟩
theorem G.lo {l : List (Int × Int)} (h : G l) : ∀ p ∈ l, 0 ≤ p.1 ∧ p.1 < p.2 ∧ p.2 ≤ mA := fun p hp => by
  have := h.nb.mem p hp
  exact ⟨by omega, this.2, h.hi p hp⟩
theorem G.gd {l : List (Int × Int)} (h : G l) (p : (Int × Int)) (hp : p ∈ l) : gd p = true := (gd_iff p).2 (h.lo p hp)
/-- what has only places that may be is good. -/
theorem G.of_hs {e : Int} {l : List (Int × Int)} (h : Nb e l) (hx : ∀ x, hs l x = true → 0 ≤ x ∧ x < mA) : G l := by
  have hm : ∀ p ∈ l, 0 ≤ p.1 ∧ p.2 ≤ mA := fun p hp => by
    have h1 := (h.mem p hp).2
    have h2 := hx p.1 ((hs_iff l p.1).2 ⟨p, hp, Int.le_refl _, h1⟩)
    have h3 := hx (p.2 - 1) ((hs_iff l (p.2 - 1)).2 ⟨p, hp, by omega, by omega⟩)
    omega
  exact ⟨h.of_low (fun p hp => by have := hm p hp; omega), fun p hp => (hm p hp).2⟩
theorem G.places {l : List (Int × Int)} (h : G l) {x : Int} (hx : hs l x = true) : 0 ≤ x ∧ x < mA := by
  obtain ⟨p, hp, h1, h2⟩ := (hs_iff l x).1 hx
  have := h.lo p hp
  omega
theorem G.one {l m : List (Int × Int)} (h : G l) (k : G m) (hx : ∀ x, hs l x = hs m x) : l = m := hs_one h.nb k.nb hx
theorem G.nil : G [] := ⟨trivial, fun p hp => by simp at hp⟩
theorem G.take {l : List (Int × Int)} (h : G l) (i : Nat) : G (l.take i) := ⟨h.nb.take i, fun p hp => h.hi p (List.mem_of_mem_take hp)⟩
theorem G.drop {l : List (Int × Int)} (h : G l) (i : Nat) : G (l.drop i) := ⟨h.nb.drop i, fun p hp => h.hi p (List.mem_of_mem_drop hp)⟩
def inS (s : (Int × Int)) (x : Int) : Bool := decide (s.1 ≤ x) && decide (x < s.2)
theorem inS_iff (s : (Int × Int)) (x : Int) : inS s x = true ↔ s.1 ≤ x ∧ x < s.2 := by simp [inS]
theorem hs_cons (p : (Int × Int)) (l : List (Int × Int)) (x : Int) : hs (p :: l) x = (inS p x || hs l x) := rfl
theorem hs_single (s : (Int × Int)) (x : Int) : hs [s] x = inS s x := by simp [hs, inS]

/-! ### where a search ends -/
/-- i is a place at which a list turns from p's no to its yes. -/
structure Turn (l : List (Int × Int)) (p : (Int × Int) → Bool) (i : Nat) : Prop where
  le : i ≤ l.length
  no : ∀ q ∈ l.take i, p q = false
  yes : ∀ q ∈ l.drop i, p q = true
theorem getD_mem (l : List (Int × Int)) (i : Nat) (h : i < l.length) : l.getD i (0, 0) ∈ l := by
  rw [List.getD_eq_getElem?_getD, List.getElem?_eq_getElem h]
  exact List.getElem_mem h
theorem Nb.at {e : Int} {l : List (Int × Int)} (h : Nb e l) (a b : Nat) (hab : a < b) (hb : b < l.length) : (l.getD a (0, 0)).2 < (l.getD b (0, 0)).1 := by
  rw [← List.take_append_drop b l] at h
  refine h.sep _ ?_ _ ?_
  · have : a < (l.take b).length := by rw [List.length_take]; omega
    have h2 := getD_mem (l.take b) a this
    rwa [List.getD_eq_getElem?_getD, List.getElem?_take, if_pos hab, ← List.getD_eq_getElem?_getD] at h2
  · have : 0 < (l.drop b).length := by rw [List.length_drop]; omega
    have h2 := getD_mem (l.drop b) 0 this
    rwa [List.getD_eq_getElem?_getD, List.getElem?_drop, Nat.add_zero, ← List.getD_eq_getElem?_getD] at h2
theorem mem_take_at {l : List (Int × Int)} {i : Nat} {q : (Int × Int)} (h : q ∈ l.take i) : ∃ a, a < i ∧ a < l.length ∧ l.getD a (0, 0) = q := by
  obtain ⟨a, ha, rfl⟩ := List.getElem_of_mem h
  rw [List.length_take] at ha
  exact ⟨a, by omega, by omega, by rw [List.getElem_take, List.getD_eq_getElem?_getD, List.getElem?_eq_getElem (by omega)]; rfl⟩
theorem mem_drop_at {l : List (Int × Int)} {i : Nat} {q : (Int × Int)} (h : q ∈ l.drop i) : ∃ a, i ≤ a ∧ a < l.length ∧ l.getD a (0, 0) = q := by
  obtain ⟨a, ha, rfl⟩ := List.getElem_of_mem h
  rw [List.length_drop] at ha
  exact ⟨i + a, by omega, by omega, by rw [List.getElem_drop, List.getD_eq_getElem?_getD, List.getElem?_eq_getElem (by omega)]; rfl⟩
/-- a search by the spans' ends. -/
theorem turn_to {e : Int} {l : List (Int × Int)} (h : Nb e l) (c : Int) (i : Nat) (hi : i ≤ l.length) (h1 : 0 < i → (l.getD (i - 1) (0, 0)).2 ≤ c) (h2 : i < l.length → c < (l.getD i (0, 0)).2) : Turn l (fun q => decide (c < q.2)) i := by
  refine ⟨hi, fun q hq => ?_, fun q hq => ?_⟩
  · obtain ⟨a, ha, hl, rfl⟩ := mem_take_at hq
    have := h1 (by omega)
    by_cases e : a = i - 1
    · subst e; exact decide_eq_false (by omega)
    · have h3 := h.at a (i - 1) (by omega) (by omega)
      have h4 := h.mem _ (getD_mem l (i - 1) (by omega))
      exact decide_eq_false (by omega)
  · obtain ⟨a, ha, hl, rfl⟩ := mem_drop_at hq
    have := h2 (by omega)
    by_cases e : a = i
    · subst e; exact decide_eq_true (by omega)
    · have h3 := h.at i a (by omega) (by omega)
      have h4 := h.mem _ (getD_mem l a (by omega))
      exact decide_eq_true (by omega)
/-- a search by the spans' beginnings. -/
theorem turn_from {e : Int} {l : List (Int × Int)} (h : Nb e l) (c : Int) (i : Nat) (hi : i ≤ l.length) (h1 : 0 < i → (l.getD (i - 1) (0, 0)).1 < c) (h2 : i < l.length → c ≤ (l.getD i (0, 0)).1) : Turn l (fun q => decide (c ≤ q.1)) i := by
  refine ⟨hi, fun q hq => ?_, fun q hq => ?_⟩
  · obtain ⟨a, ha, hl, rfl⟩ := mem_take_at hq
    have := h1 (by omega)
    by_cases e : a = i - 1
    · subst e; exact decide_eq_false (by omega)
    · have h3 := h.at a (i - 1) (by omega) (by omega)
      have h4 := h.mem _ (getD_mem l a (by omega))
      exact decide_eq_false (by omega)
  · obtain ⟨a, ha, hl, rfl⟩ := mem_drop_at hq
    have := h2 (by omega)
    by_cases e : a = i
    · subst e; exact decide_eq_true (by omega)
    · have h3 := h.at i a (by omega) (by omega)
      have h4 := h.mem _ (getD_mem l i (by omega))
      exact decide_eq_true (by omega)
/-- the two places of a span in a list, and what lies ahead, between, behind. -/
structure Mid (l : List (Int × Int)) (s : (Int × Int)) (i j : Nat) : Prop where
  ij : i ≤ j
  jl : j ≤ l.length
  ahead : ∀ q ∈ l.take i, q.2 ≤ s.1
  mid : ∀ q ∈ (l.take j).drop i, s.1 < q.2 ∧ q.1 < s.2
  behind : ∀ q ∈ l.drop j, s.2 ≤ q.1
theorem mem_mid {l : List (Int × Int)} {i j : Nat} {q : (Int × Int)} (h : q ∈ (l.take j).drop i) : q ∈ l.take j ∧ q ∈ l.drop i := by
  refine ⟨List.mem_of_mem_drop h, ?_⟩
  rw [List.drop_take] at h
  exact List.mem_of_mem_take h
theorem mid_of {l : List (Int × Int)} (hG : G l) {s : (Int × Int)} (hs : s.1 < s.2) {i j : Nat} (h1 : Turn l (fun q => decide (s.1 < q.2)) i) (h2 : Turn l (fun q => decide (s.2 ≤ q.1)) j) : Mid l s i j := by
  have a1 : ∀ q ∈ l.take i, q.2 ≤ s.1 := fun q hq => by have := h1.no q hq; simp at this; omega
  have a2 : ∀ q ∈ l.drop i, s.1 < q.2 := fun q hq => by have := h1.yes q hq; simpa using this
  have a3 : ∀ q ∈ l.take j, q.1 < s.2 := fun q hq => by have := h2.no q hq; simp at this; omega
  have a4 : ∀ q ∈ l.drop j, s.2 ≤ q.1 := fun q hq => by have := h2.yes q hq; simpa using this
  refine ⟨?_, h2.le, a1, fun q hq => ⟨a2 q (mem_mid hq).2, a3 q (mem_mid hq).1⟩, a4⟩
  apply Nat.le_of_not_lt
  intro hlt
  have hi := h1.le
  have m1 : l.getD j (0, 0) ∈ l.take i := by
    have := getD_mem (l.take i) j (by rw [List.length_take]; omega)
    rwa [List.getD_eq_getElem?_getD, List.getElem?_take, if_pos hlt, ← List.getD_eq_getElem?_getD] at this
  have m2 : l.getD j (0, 0) ∈ l.drop j := by
    have := getD_mem (l.drop j) 0 (by rw [List.length_drop]; omega)
    rwa [List.getD_eq_getElem?_getD, List.getElem?_drop, Nat.add_zero, ← List.getD_eq_getElem?_getD] at this
  have t1 := a1 _ m1
  have t2 := a4 _ m2
  have t3 := hG.lo _ (getD_mem l j (by omega))
  omega
theorem three {l : List (Int × Int)} {i j : Nat} (h : i ≤ j) : l = l.take i ++ ((l.take j).drop i ++ l.drop j) := by
  rw [← List.append_assoc]
  have : l.take i ++ (l.take j).drop i = l.take j := by
    have := List.take_append_drop i (l.take j)
    rwa [List.take_take, Nat.min_eq_left h] at this
  rw [this, List.take_append_drop]
theorem Mid.ahead_mid {l : List (Int × Int)} {s : (Int × Int)} {i j : Nat} (h : Mid l s i j) : l = l.take i ++ ((l.take j).drop i ++ l.drop j) := three h.ij

/-! ### Add -/
def mrg (l : List (Int × Int)) (s : (Int × Int)) (i j : Nat) : (Int × Int) := if i < j then (min s.1 (l.getD i (0, 0)).1, max s.2 (l.getD (j - 1) (0, 0)).2) else s
def addL (l : List (Int × Int)) (s : (Int × Int)) (i j : Nat) : List (Int × Int) := l.take i ++ ([mrg l s i j] ++ l.drop j)
theorem mid_head {l : List (Int × Int)} {i j : Nat} (h : i < j) (hj : j ≤ l.length) : l.getD i (0, 0) ∈ (l.take j).drop i := by
  have := getD_mem ((l.take j).drop i) 0 (by rw [List.length_drop, List.length_take]; omega)
  rwa [List.getD_eq_getElem?_getD, List.getElem?_drop, Nat.add_zero, List.getElem?_take, if_pos h, ← List.getD_eq_getElem?_getD] at this
theorem mid_last {l : List (Int × Int)} {i j : Nat} (h : i < j) (hj : j ≤ l.length) : l.getD (j - 1) (0, 0) ∈ (l.take j).drop i := by
  have := getD_mem ((l.take j).drop i) (j - 1 - i) (by rw [List.length_drop, List.length_take]; omega)
  rwa [List.getD_eq_getElem?_getD, List.getElem?_drop, show i + (j - 1 - i) = j - 1 by omega, List.getElem?_take, if_pos (by omega), ← List.getD_eq_getElem?_getD] at this
theorem mid_at {l : List (Int × Int)} {i j : Nat} {q : (Int × Int)} (h : q ∈ (l.take j).drop i) : ∃ a, i ≤ a ∧ a < j ∧ a < l.length ∧ l.getD a (0, 0) = q := by
  obtain ⟨a, ha, hl, hq⟩ := mem_drop_at h
  rw [List.length_take] at hl
  refine ⟨a, ha, by omega, by omega, ?_⟩
  rw [List.getD_eq_getElem?_getD, List.getElem?_take, if_pos (by omega), ← List.getD_eq_getElem?_getD] at hq
  exact hq
theorem add_ok {l : List (Int × Int)} (hG : G l) {s : (Int × Int)} (hg : gd s = true) {i j : Nat} (h : Mid l (s.1 - 1, s.2 + 1) i j) : G (addL l s i j) ∧ (∀ x, hs (addL l s i j) x = (hs l x || inS s x)) ∧ (addL l s i j).length ≤ l.length + 1 := by
  obtain ⟨g1, g2, g3⟩ := (gd_iff s).1 hg
  have hij := h.ij
  have hjl := h.jl
  have hlo : ∀ q ∈ l, 0 ≤ q.1 ∧ q.1 < q.2 ∧ q.2 ≤ mA := hG.lo
  have ha : ∀ q ∈ l.take i, q.2 ≤ s.1 - 1 := h.ahead
  have hm : ∀ q ∈ (l.take j).drop i, s.1 - 1 < q.2 ∧ q.1 < s.2 + 1 := h.mid
  have hb : ∀ q ∈ l.drop j, s.2 + 1 ≤ q.1 := h.behind
  obtain ⟨m, em⟩ : ∃ m, m = mrg l s i j := ⟨_, rfl⟩
  have key : m.1 ≤ s.1 ∧ s.2 ≤ m.2 ∧ 0 ≤ m.1 ∧ m.2 ≤ mA ∧ (∀ q ∈ l.take i, q.2 < m.1) ∧ (∀ q ∈ l.drop j, m.2 < q.1) ∧ ∀ x, inS m x = (hs ((l.take j).drop i) x || inS s x) := by
    by_cases hlt : i < j
    · have e1 : m = (min s.1 (l.getD i (0, 0)).1, max s.2 (l.getD (j - 1) (0, 0)).2) := by rw [em]; exact if_pos hlt
      have f1 := mid_head hlt hjl
      have f2 := mid_last hlt hjl
      obtain ⟨a, ea⟩ : ∃ a, a = l.getD i (0, 0) := ⟨_, rfl⟩
      obtain ⟨b, eb⟩ : ∃ b, b = l.getD (j - 1) (0, 0) := ⟨_, rfl⟩
      have hall : ∀ q ∈ (l.take j).drop i, a.1 ≤ q.1 ∧ q.2 ≤ b.2 := fun q hq => by
        obtain ⟨c, c1, c2, c3, rfl⟩ := mid_at hq
        have k1 := hlo _ (getD_mem l c c3)
        have k2 := hlo _ (getD_mem l i (by omega))
        have k3 := hlo _ (getD_mem l (j - 1) (by omega))
        constructor
        · by_cases e : c = i
          · rw [e, ea]; omega
          · have := hG.nb.at i c (by omega) c3
            rw [ea]; omega
        · by_cases e : c = j - 1
          · rw [e, eb]; omega
          · have := hG.nb.at c (j - 1) (by omega) (by omega)
            rw [eb]; omega
      rw [← ea] at f1 e1
      rw [← eb] at f2 e1
      have k1 := hm a f1
      have k2 := hm b f2
      have k3 := hlo a (by rw [ea]; exact getD_mem l i (by omega))
      have k4 := hlo b (by rw [eb]; exact getD_mem l (j - 1) (by omega))
      have m1 : m.1 = min s.1 a.1 := by rw [e1]
      have m2 : m.2 = max s.2 b.2 := by rw [e1]
      refine ⟨by omega, by omega, by omega, by omega, fun q hq => ?_, fun q hq => ?_, fun x => ?_⟩
      · have t1 := ha q hq
        have t2 : q.2 < a.1 := by
          have hn : Nb (-1) (l.take i ++ ((l.take j).drop i ++ l.drop j)) := by rw [← three hij]; exact hG.nb
          exact hn.sep q hq a (List.mem_append.2 (.inl f1))
        omega
      · have t1 := hb q hq
        have t2 : b.2 < q.1 := by
          have hn : Nb (-1) (l.take i ++ ((l.take j).drop i ++ l.drop j)) := by rw [← three hij]; exact hG.nb
          exact (hn.right).sep b f2 q hq
        omega
      · rw [Bool.eq_iff_iff, Bool.or_eq_true, inS_iff, inS_iff, hs_iff, m1, m2]
        constructor
        · rintro ⟨h1, h2⟩
          by_cases c1 : x < s.1
          · exact .inl ⟨a, f1, by omega, by omega⟩
          · by_cases c2 : s.2 ≤ x
            · exact .inl ⟨b, f2, by omega, by omega⟩
            · exact .inr ⟨by omega, by omega⟩
        · rintro (⟨q, hq, h1, h2⟩ | h1)
          · have := hall q hq
            omega
          · omega
    · have e1 : m = s := by rw [em]; exact if_neg hlt
      subst e1
      have e2 : (l.take j).drop i = [] := List.eq_nil_of_length_eq_zero (by rw [List.length_drop, List.length_take]; omega)
      refine ⟨Int.le_refl _, Int.le_refl _, g1, g3, fun q hq => by have := ha q hq; omega, fun q hq => by have := hb q hq; omega, fun x => by rw [e2]; simp [hs]⟩
  obtain ⟨k1, k2, k3, k4, k5, k6, k7⟩ := key
  have hR : addL l s i j = l.take i ++ ([m] ++ l.drop j) := by rw [em]; rfl
  have hx : ∀ x, hs (addL l s i j) x = (hs l x || inS s x) := fun x => by
    have e3 : hs l x = (hs (l.take i) x || (hs ((l.take j).drop i) x || hs (l.drop j) x)) := by
      rw [← hs_app, ← hs_app, ← three hij]
    rw [e3, hR, hs_app, hs_app, hs_single, k7 x]
    cases hs (l.take i) x <;> cases hs ((l.take j).drop i) x <;> cases hs (l.drop j) x <;> cases inS s x <;> rfl
  refine ⟨?_, hx, ?_⟩
  · refine G.of_hs (e := -1) ?_ (fun x h => ?_)
    · rw [hR]
      refine (hG.nb.take i).append (c := m.1 - 1) ⟨by omega, by omega, ?_⟩ (fun q hq => by have := k5 q hq; omega) (by omega)
      exact (hG.nb.drop j).of_low k6
    · rw [hx x, Bool.or_eq_true, inS_iff] at h
      rcases h with h | h
      · exact hG.places h
      · omega
  · rw [hR, List.length_append, List.length_append, List.length_take, List.length_drop, List.length_singleton]
    omega

end Go.Proofs.Ytdfdoinhkjoalaa.Plain
