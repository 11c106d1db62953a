/-
  Plain facts on the numbers of a set: all of them rising (fl), how many, the last; the runs as they are met number by number (rn), by whole runs, and what they hold. No condition but bounds.
-/
import Derived.Test.YtffbachgbcefiaaDoorMkPlain
namespace Go.Proofs.YtffbachgbcefiaaDoor.Plain

/-! ### all numbers below n, rising -/
def fl : Nat → (Nat → Bool) → List Nat
  | 0, _ => []
  | n + 1, f => if f n then fl n f ++ [n] else fl n f
theorem fl_congr : ∀ n (f g : Nat → Bool), (∀ j, j < n → f j = g j) → fl n f = fl n g
  | 0, _, _, _ => rfl
  | n + 1, f, g, e => by
    simp only [fl]
    rw [e n (by omega), fl_congr n f g (fun j hj => e j (by omega))]
theorem fl_len : ∀ n f, (fl n f).length = cn n f
  | 0, _ => rfl
  | n + 1, f => by
    rw [cn_add n 1]
    simp only [fl, cn]
    by_cases h : f n = true
    · rw [if_pos h, List.length_append, fl_len n f, show n + 0 = n from rfl, h]; rfl
    · have h' : f n = false := by simpa using h
      rw [if_neg h, fl_len n f, show n + 0 = n from rfl, h']; rfl
theorem fl_le (n : Nat) (f : Nat → Bool) : (fl n f).length ≤ n := by rw [fl_len]; exact cn_le n f
theorem fl_mem : ∀ n f i, i ∈ fl n f ↔ i < n ∧ f i = true
  | 0, _, i => by simp [fl]
  | n + 1, f, i => by
    simp only [fl]
    by_cases h : f n = true
    · rw [if_pos h, List.mem_append, fl_mem n f i]
      constructor
      · rintro (⟨a, b⟩ | a)
        · exact ⟨by omega, b⟩
        · obtain rfl : i = n := by simpa using a
          exact ⟨by omega, h⟩
      · rintro ⟨a, b⟩
        by_cases e : i = n
        · exact .inr (by simp [e])
        · exact .inl ⟨by omega, b⟩
    · rw [if_neg h, fl_mem n f i]
      constructor
      · rintro ⟨a, b⟩
        exact ⟨by omega, b⟩
      · rintro ⟨a, b⟩
        refine ⟨?_, b⟩
        by_cases e : i = n
        · subst e; exact absurd b h
        · omega
theorem fl_skip (f : Nat → Bool) (a : Nat) : ∀ d, (∀ j, a ≤ j → j < a + d → f j = false) → fl (a + d) f = fl a f
  | 0, _ => rfl
  | d + 1, h => by
    rw [show a + (d + 1) = a + d + 1 by omega]
    simp only [fl]
    rw [h (a + d) (by omega) (by omega)]
    simp
    exact fl_skip f a d (fun j h1 h2 => h j h1 (by omega))
theorem fl_skip' (f : Nat → Bool) (a b : Nat) (hab : a ≤ b) (h : ∀ j, a ≤ j → j < b → f j = false) : fl b f = fl a f := by
  obtain ⟨d, rfl⟩ : ∃ d, b = a + d := ⟨b - a, by omega⟩
  exact fl_skip f a d h
theorem fl_last : ∀ n f, fl n f = [] ∧ ls n f = 0 ∨ ∃ l, fl n f = l ++ [ls n f - 1] ∧ 0 < ls n f
  | 0, _ => .inl ⟨rfl, rfl⟩
  | n + 1, f => by
    simp only [fl, ls]
    by_cases h : f n = true
    · rw [if_pos h, if_pos h]; exact .inr ⟨fl n f, by simp, by omega⟩
    · rw [if_neg h, if_neg h]; exact fl_last n f
/-- all numbers of a list as a set. -/
def inL (l : List Int) (i : Nat) : Bool := l.any fun x => x == (i : Int)
theorem inL_app (l : List Int) (x : Int) (i : Nat) : inL (l ++ [x]) i = (inL l i || (x == (i : Int))) := by unfold inL; rw [List.any_append]; simp
theorem inL_fl (n : Nat) (f : Nat → Bool) (i : Nat) (hi : i < n) : inL ((fl n f).map Int.ofNat) i = f i := by
  unfold inL
  rw [List.any_map]
  by_cases h : f i = true
  · rw [h, List.any_eq_true]
    exact ⟨i, (fl_mem n f i).2 ⟨hi, h⟩, by simp⟩
  · have h' : f i = false := by simpa using h
    rw [h', List.any_eq_false]
    intro x hx
    have := (fl_mem n f x).1 hx
    intro e
    have e' : x = i := by have h5 := eq_of_beq e; exact Int.ofNat.inj h5
    subst e'
    exact h this.2

/-! ### runs -/
def bump (l : List (Nat × Nat)) : List (Nat × Nat) := l.dropLast ++ (match l.getLast? with | some p => [(p.1, p.2 + 1)] | none => [])
def rn : Nat → (Nat → Bool) → List (Nat × Nat)
  | 0, _ => []
  | n + 1, f => if f n then (if 0 < n ∧ f (n - 1) = true then bump (rn n f) else rn n f ++ [(n, 1)]) else rn n f
theorem rn_succ (n : Nat) (f : Nat → Bool) : rn (n + 1) f = if f n then (if 0 < n ∧ f (n - 1) = true then bump (rn n f) else rn n f ++ [(n, 1)]) else rn n f := rfl
theorem bump_app (l : List (Nat × Nat)) (p : Nat × Nat) : bump (l ++ [p]) = l ++ [(p.1, p.2 + 1)] := by unfold bump; simp
theorem rn_skip (f : Nat → Bool) (a : Nat) : ∀ d, (∀ j, a ≤ j → j < a + d → f j = false) → rn (a + d) f = rn a f
  | 0, _ => rfl
  | d + 1, h => by
    rw [show a + (d + 1) = a + d + 1 by omega]
    simp only [rn]
    rw [h (a + d) (by omega) (by omega)]
    simp
    exact rn_skip f a d (fun j h1 h2 => h j h1 (by omega))
theorem rn_skip' (f : Nat → Bool) (a b : Nat) (hab : a ≤ b) (h : ∀ j, a ≤ j → j < b → f j = false) : rn b f = rn a f := by
  obtain ⟨d, rfl⟩ : ∃ d, b = a + d := ⟨b - a, by omega⟩
  exact rn_skip f a d h
theorem rn_run (f : Nat → Bool) (a : Nat) (h0 : a = 0 ∨ f (a - 1) = false) : ∀ d, (∀ j, a ≤ j → j < a + (d + 1) → f j = true) → rn (a + (d + 1)) f = rn a f ++ [(a, d + 1)]
  | 0, h => by
    show rn (a + 1) f = _
    simp only [rn]
    rw [if_pos (h a (by omega) (by omega)), if_neg]
    rintro ⟨h1, h2⟩
    rcases h0 with e | e
    · omega
    · rw [e] at h2; cases h2
  | d + 1, h => by
    have ih := rn_run f a h0 d (fun j h1 h2 => h j h1 (by omega))
    rw [show a + (d + 1 + 1) = a + (d + 1) + 1 by omega, rn_succ]
    rw [if_pos (h _ (by omega) (by omega)), if_pos ⟨by omega, h _ (by omega) (by omega)⟩, ih, bump_app]
theorem rn_run' (f : Nat → Bool) (a b : Nat) (h0 : a = 0 ∨ f (a - 1) = false) (hab : a < b) (h : ∀ j, a ≤ j → j < b → f j = true) : rn b f = rn a f ++ [(a, b - a)] := by
  obtain ⟨d, rfl⟩ : ∃ d, b = a + (d + 1) := ⟨b - a - 1, by omega⟩
  rw [rn_run f a h0 d h]
  congr 3; omega
/-- the runs below n, whole: the last one ends at n, if n - 1 is in the set. -/
theorem rn_end : ∀ n f, 0 < n → f (n - 1) = true → ∃ l a, rn n f = l ++ [(a, n - a)] ∧ a < n ∧ (∀ j, a ≤ j → j < n → f j = true) ∧ rn a f = l ∧ (a = 0 ∨ f (a - 1) = false)
  | 0, _, h, _ => by omega
  | n + 1, f, _, h => by
    have h : f n = true := h
    by_cases hb : 0 < n ∧ f (n - 1) = true
    · obtain ⟨l, a, e, ha, hj, hl, h0⟩ := rn_end n f hb.1 hb.2
      refine ⟨l, a, ?_, by omega, fun j h1 h2 => ?_, hl, h0⟩
      · simp only [rn]
        rw [if_pos h, if_pos hb, e, bump_app, show n + 1 - a = n - a + 1 by omega]
      · by_cases e2 : j = n
        · subst e2; exact h
        · exact hj j h1 (by omega)
    · refine ⟨rn n f, n, ?_, by omega, fun j h1 h2 => ?_, rfl, ?_⟩
      · simp only [rn]
        rw [if_pos h, if_neg hb, show n + 1 - n = 1 by omega]
      · obtain rfl : j = n := by omega
        exact h
      · by_cases e : n = 0
        · exact .inl e
        · right
          have : ¬ f (n - 1) = true := fun h2 => hb ⟨by omega, h2⟩
          simpa using this
/-- is a number in one of the runs? -/
def inR (l : List (Nat × Nat)) (i : Nat) : Bool := l.any fun p => decide (p.1 ≤ i) && decide (i < p.1 + p.2)
theorem inR_app (l : List (Nat × Nat)) (p : Nat × Nat) (i : Nat) : inR (l ++ [p]) i = (inR l i || (decide (p.1 ≤ i) && decide (i < p.1 + p.2))) := by unfold inR; rw [List.any_append]; simp
theorem rn_in : ∀ n f i, inR (rn n f) i = (decide (i < n) && f i)
  | 0, _, i => by simp [rn, inR]
  | n + 1, f, i => by
    by_cases h : f n = true
    · by_cases hb : 0 < n ∧ f (n - 1) = true
      · obtain ⟨l, a, e, ha, hj, hl, h0⟩ := rn_end n f hb.1 hb.2
        have ih := rn_in n f i
        rw [e, inR_app] at ih
        simp only [rn]
        rw [if_pos h, if_pos hb, e, bump_app, inR_app]
        simp only at ih ⊢
        by_cases e1 : i = n
        · subst e1
          rw [decide_eq_true (show a ≤ i by omega), decide_eq_true (show i < a + (i - a + 1) by omega), h]; simp
        · rw [show decide (i < a + (n - a + 1)) = decide (i < a + (n - a)) from decide_eq_decide.2 (by omega), ih]
          congr 1
          exact decide_eq_decide.2 (by omega)
      · simp only [rn]
        rw [if_pos h, if_neg hb, inR_app, rn_in n f i]
        by_cases e1 : i = n
        · subst e1; simp [h]
        · have : (decide (n ≤ i) && decide (i < n + 1)) = false := by
            rw [Bool.and_eq_false_iff]
            by_cases e2 : n ≤ i
            · right; simp; omega
            · left; simp; omega
          simp only
          rw [this, Bool.or_false]
          congr 1
          exact decide_eq_decide.2 (by omega)
    · have h' : f n = false := by simpa using h
      simp only [rn]
      rw [if_neg h, rn_in n f i]
      by_cases e1 : i = n
      · subst e1; simp [h']
      · congr 1
        exact decide_eq_decide.2 (by omega)
theorem rn_len : ∀ n f, (rn n f).length ≤ n
  | 0, _ => by simp [rn]
  | n + 1, f => by
    have ih := rn_len n f
    simp only [rn]
    split
    · rename_i h
      split
      · rename_i hb
        obtain ⟨l, a, e, _⟩ := rn_end n f hb.1 hb.2
        rw [e, bump_app]
        rw [e] at ih
        simp at ih ⊢
        omega
      · simp; omega
    · omega
theorem rn_bound (n : Nat) (f : Nat → Bool) : ∀ p ∈ rn n f, p.1 + p.2 ≤ n := by
  induction n with
  | zero => intro p hp; simp [rn] at hp
  | succ n ih =>
    intro p hp
    simp only [rn] at hp
    split at hp
    · rename_i h
      split at hp
      · rename_i hb
        obtain ⟨l, a, e, ha, _⟩ := rn_end n f hb.1 hb.2
        rw [e, bump_app] at hp
        rcases List.mem_append.1 hp with h1 | h1
        · have := ih p (by rw [e]; exact List.mem_append_left _ h1)
          omega
        · obtain rfl := List.mem_singleton.1 h1
          simp only; omega
      · rcases List.mem_append.1 hp with h1 | h1
        · have := ih p h1; omega
        · obtain rfl := List.mem_singleton.1 h1
          simp only; omega
    · have := ih p hp; omega
theorem rn_congr : ∀ n (f g : Nat → Bool), (∀ j, j < n → f j = g j) → rn n f = rn n g
  | 0, _, _, _ => rfl
  | n + 1, f, g, e => by
    simp only [rn]
    rw [e n (by omega), rn_congr n f g (fun j hj => e j (by omega))]
    by_cases h : 0 < n
    · rw [e (n - 1) (by omega)]
    · have : n = 0 := by omega
      subst this; simp

end Go.Proofs.YtffbachgbcefiaaDoor.Plain
