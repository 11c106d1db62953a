/-
  A stripe's state by its columns (PS), which states are good (gdP), which ways may be (mayW), what they read (rdW), which one is chosen (pick). No condition.
-/
import Derived.Test.YtffbachgbcefiaaDoorMkNext
import Derived.Test.YtffbachgbcefiaaDoorMkOf
namespace Go.Proofs.YtffbachgbcefiaaDoor
open Go.RowKit Plain
set_option linter.unusedVariables false

/-- what there is of a stripe, column by column. -/
structure PS where
  D : Int
  y : Nat → Bool
  h : Nat → Bool
  k : Nat → Bool
  l : Nat → Bool
def subB (f g : Nat → Bool) : Bool := emB (lessF f g)
def parF (D : Int) : Nat → Bool := lessF (upF (D + 2)) (upF D)
def gdP (s : PS) : Bool := decide (2 ≤ s.D) && (decide (s.D ≤ 30) && (!emB s.y && (subB s.y s.h && (subB s.h (upF s.D) && (subB s.k (upF s.D) && (subB s.l (upF (s.D + 2)) && decide (cn 256 s.l ≤ 2)))))))
/-- what a way reads. -/
def rdW (s : PS) : Nat → Nat → Bool
  | 0 => inL []
  | 1 => lessF (upF s.D) s.h
  | 2 => orF (lessF s.y s.k) (lessF (parF s.D) s.l)
  | _ => lessF (upF (s.D + 2)) s.l
/-- may it be? -/
def mayW (s : PS) : Nat → Bool
  | 0 => eqB s.h (upF s.D)
  | 1 => !emB (lessF (upF s.D) s.h) && emB (andF (lessF (upF s.D) s.h) s.l)
  | 2 => emB (andF (lessF s.y s.k) s.l) && !emB (lessF (parF s.D) s.l)
  | _ => true
def wyN (s : PS) : Nat → List Nat
  | 0 => []
  | n + 1 => wyN s n ++ (if mayW s n then [n] else [])
def wyL (s : PS) : List Nat := if gdP s then wyN s 4 else []
/-- the first of the least. -/
def pickF (c : Nat → Nat) (m : Nat) (l : List Nat) : Nat := l.foldl (fun m x => if c x < c m then x else m) m
def pick (c : Nat → Nat) (l : List Nat) : Nat := pickF c (l.getD 0 0) l.tail
def chW (s : PS) : Nat := pick (fun k => cn 256 (rdW s k)) (wyL s)

theorem em_iff (f : Nat → Bool) : emB f = true ↔ ∀ i, i < 256 → f i = false := ⟨fun h i hi => by have := eqB_iff h i hi; simpa [noF] using this, emB_of⟩
theorem em_false (f : Nat → Bool) : emB f = false ↔ ∃ i, i < 256 ∧ f i = true := by
  constructor
  · intro h
    apply Classical.byContradiction
    intro hn
    have : emB f = true := emB_of fun i hi => by
      cases e : f i with
      | false => rfl
      | true => exact absurd ⟨i, hi, e⟩ hn
    rw [h] at this; cases this
  · rintro ⟨i, hi, h⟩
    exact emB_not i hi h
theorem sub_iff (f g : Nat → Bool) : subB f g = true ↔ ∀ i, i < 256 → f i = true → g i = true := by
  unfold subB
  rw [em_iff]
  constructor
  · intro h i hi hf
    have := h i hi
    unfold lessF at this
    rw [hf] at this
    simpa using this
  · intro h i hi
    unfold lessF
    cases e : f i with
    | false => rfl
    | true => rw [h i hi e]; rfl
theorem up_iff (n : Int) (i : Nat) : upF n i = true ↔ (i : Int) < n := by unfold upF; simp
/-- a good state, in words. -/
structure Gp (s : PS) : Prop where
  d1 : 2 ≤ s.D
  d2 : s.D ≤ 30
  ne : ∃ i, i < 256 ∧ s.y i = true
  yh : ∀ i, i < 256 → s.y i = true → s.h i = true
  hd : ∀ i, i < 256 → s.h i = true → (i : Int) < s.D
  kd : ∀ i, i < 256 → s.k i = true → (i : Int) < s.D
  ld : ∀ i, i < 256 → s.l i = true → (i : Int) < s.D + 2
  lc : cn 256 s.l ≤ 2
theorem gd_iff (s : PS) : gdP s = true ↔ Gp s := by
  unfold gdP
  simp only [Bool.and_eq_true, decide_eq_true_eq, Bool.not_eq_true', em_false, sub_iff, up_iff]
  exact ⟨fun ⟨a, b, c, d, e, f, g, h⟩ => ⟨a, b, c, d, e, f, g, h⟩, fun ⟨a, b, c, d, e, f, g, h⟩ => ⟨a, b, c, d, e, f, g, h⟩⟩
theorem Gp.yd {s : PS} (h : Gp s) (i : Nat) (hi : i < 256) (hy : s.y i = true) : (i : Int) < s.D := h.hd i hi (h.yh i hi hy)
theorem wyN_mem (s : PS) (k : Nat) : ∀ n, k ∈ wyN s n ↔ k < n ∧ mayW s k = true
  | 0 => by simp [wyN]
  | n + 1 => by
    unfold wyN
    rw [List.mem_append, wyN_mem s k n]
    by_cases e : mayW s n = true
    · rw [if_pos e]
      simp only [List.mem_singleton]
      constructor
      · rintro (⟨a, b⟩ | rfl)
        · exact ⟨by omega, b⟩
        · exact ⟨by omega, e⟩
      · rintro ⟨a, b⟩
        by_cases e2 : k = n
        · exact .inr e2
        · exact .inl ⟨by omega, b⟩
    · rw [if_neg e]
      simp only [List.not_mem_nil, or_false]
      constructor
      · rintro ⟨a, b⟩; exact ⟨by omega, b⟩
      · rintro ⟨a, b⟩
        refine ⟨?_, b⟩
        by_cases e2 : k = n
        · subst e2; exact absurd b e
        · omega
theorem wyN_len (s : PS) : ∀ n, (wyN s n).length ≤ n
  | 0 => by simp [wyN]
  | n + 1 => by
    unfold wyN
    have := wyN_len s n
    rw [List.length_append]
    split <;> simp <;> omega
theorem wy_ok {s : PS} (h : Gp s) : wyL s = wyN s 4 := by unfold wyL; rw [if_pos ((gd_iff s).2 h)]
theorem wy_pos {s : PS} (h : Gp s) : 0 < (wyL s).length := by
  rw [wy_ok h]
  exact List.length_pos_of_mem ((wyN_mem s 3 4).2 ⟨by omega, rfl⟩)
theorem wy_len (s : PS) : (wyL s).length ≤ 4 := by
  unfold wyL
  split
  · exact wyN_len s 4
  · simp
theorem wy_mem {s : PS} (h : Gp s) (k : Nat) : k ∈ wyL s ↔ k < 4 ∧ mayW s k = true := by rw [wy_ok h]; exact wyN_mem s k 4
theorem wy_lt {s : PS} {k : Nat} (h : k ∈ wyL s) : k < 4 := by
  unfold wyL at h
  split at h
  · exact ((wyN_mem s k 4).1 h).1
  · simp at h
theorem wy_no {s : PS} (h : gdP s = false) : wyL s = [] := by unfold wyL; rw [h]; rfl
/-- what is read is a column. -/
theorem rd_lt {s : PS} (h : Gp s) (k : Nat) (i : Nat) (hi : i < 256) (hr : rdW s k i = true) : (i : Int) < s.D + 2 := by
  match k with
  | 0 => simp [rdW, inL] at hr
  | 1 => simp only [rdW, lessF, Bool.and_eq_true, up_iff] at hr; omega
  | 2 =>
    simp only [rdW, orF, parF, lessF, Bool.or_eq_true, Bool.and_eq_true, up_iff] at hr
    rcases hr with ⟨a, _⟩ | ⟨⟨a, _⟩, _⟩
    · have := h.yd i hi a; omega
    · exact a
  | k + 3 => simp only [rdW, lessF, Bool.and_eq_true, up_iff] at hr; exact hr.1
theorem k4 (k : Nat) : k = 0 ∨ k = 1 ∨ k = 2 ∨ ∃ j, k = j + 3 := by
  by_cases h : k < 3
  · omega
  · exact .inr (.inr (.inr ⟨k - 3, by omega⟩))
theorem may0 (s : PS) : mayW s 0 = eqB s.h (upF s.D) := rfl
theorem may1 (s : PS) : mayW s 1 = (!emB (lessF (upF s.D) s.h) && emB (andF (lessF (upF s.D) s.h) s.l)) := rfl
theorem may2 (s : PS) : mayW s 2 = (emB (andF (lessF s.y s.k) s.l) && !emB (lessF (parF s.D) s.l)) := rfl
theorem may3 (s : PS) : mayW s 3 = true := rfl
theorem rd0 (s : PS) : rdW s 0 = inL [] := rfl
theorem rd1 (s : PS) : rdW s 1 = lessF (upF s.D) s.h := rfl
theorem rd2 (s : PS) : rdW s 2 = orF (lessF s.y s.k) (lessF (parF s.D) s.l) := rfl
theorem rd3 (s : PS) : rdW s 3 = lessF (upF (s.D + 2)) s.l := rfl
theorem rd4 (s : PS) (j : Nat) : rdW s (j + 3) = lessF (upF (s.D + 2)) s.l := rfl
theorem and_at {f g : Nat → Bool} (h : emB (andF f g) = true) {i : Nat} (hi : i < 256) (hf : f i = true) : g i = false := by
  have := (em_iff _).1 h i hi
  unfold andF at this
  rw [hf] at this
  simpa using this
/-- no lost column is read. -/
theorem rd_lost {s : PS} (h : Gp s) {k : Nat} (hm : mayW s k = true) (i : Nat) (hi : i < 256) (hr : rdW s k i = true) : s.l i = false := by
  rcases k4 k with rfl | rfl | rfl | ⟨j, rfl⟩
  · rw [rd0] at hr; simp [inL] at hr
  · rw [may1] at hm
    rw [rd1] at hr
    exact and_at (Bool.and_eq_true_iff.1 hm).2 hi hr
  · rw [may2] at hm
    rw [rd2] at hr
    unfold orF at hr
    rcases Bool.or_eq_true_iff.1 hr with hr | hr
    · exact and_at (Bool.and_eq_true_iff.1 hm).1 hi hr
    · simp only [lessF, Bool.and_eq_true, Bool.not_eq_true'] at hr
      exact hr.2
  · rw [rd4] at hr
    simp only [lessF, Bool.and_eq_true, Bool.not_eq_true'] at hr
    exact hr.2

/-! ### the first of the least -/
theorem pickF_snoc (c : Nat → Nat) (m : Nat) (l : List Nat) (x : Nat) : pickF c m (l ++ [x]) = if c x < c (pickF c m l) then x else pickF c m l := by
  unfold pickF; rw [List.foldl_append]; rfl
theorem pickF_mem (c : Nat → Nat) : ∀ (l : List Nat) (m : Nat), pickF c m l = m ∨ pickF c m l ∈ l
  | [], m => .inl rfl
  | x :: r, m => by
    show pickF c (if c x < c m then x else m) r = m ∨ pickF c (if c x < c m then x else m) r ∈ x :: r
    by_cases hx : c x < c m
    · rw [if_pos hx]
      rcases pickF_mem c r x with e | e
      · rw [e]; exact .inr (List.mem_cons_self ..)
      · exact .inr (List.mem_cons_of_mem _ e)
    · rw [if_neg hx]
      rcases pickF_mem c r m with e | e
      · rw [e]; exact .inl rfl
      · exact .inr (List.mem_cons_of_mem _ e)
theorem pickF_le (c : Nat → Nat) : ∀ (l : List Nat) (m : Nat), c (pickF c m l) ≤ c m ∧ ∀ x ∈ l, c (pickF c m l) ≤ c x
  | [], m => ⟨Nat.le_refl _, fun x hx => by cases hx⟩
  | x :: r, m => by
    obtain ⟨h1, h2⟩ := pickF_le c r (if c x < c m then x else m)
    show c (pickF c (if c x < c m then x else m) r) ≤ c m ∧ ∀ z ∈ x :: r, c (pickF c (if c x < c m then x else m) r) ≤ c z
    by_cases hx : c x < c m
    · rw [if_pos hx] at h1 h2 ⊢
      refine ⟨by omega, fun z hz => ?_⟩
      rcases List.mem_cons.1 hz with rfl | hz
      · exact h1
      · exact h2 z hz
    · rw [if_neg hx] at h1 h2 ⊢
      refine ⟨h1, fun z hz => ?_⟩
      rcases List.mem_cons.1 hz with rfl | hz
      · omega
      · exact h2 z hz
theorem pickF_zero (c : Nat → Nat) : ∀ (l : List Nat) (m : Nat), c m = 0 → pickF c m l = m
  | [], _, _ => rfl
  | x :: r, m, h => by
    show pickF c (if c x < c m then x else m) r = m
    rw [if_neg (by omega)]
    exact pickF_zero c r m h
theorem pick_mem (c : Nat → Nat) {l : List Nat} (h : 0 < l.length) : pick c l ∈ l := by
  cases l with
  | nil => simp at h
  | cons a r =>
    show pickF c a r ∈ a :: r
    rcases pickF_mem c r a with e | e
    · rw [e]; simp
    · exact List.mem_cons_of_mem _ e
theorem pick_le (c : Nat → Nat) {l : List Nat} {x : Nat} (hx : x ∈ l) : c (pick c l) ≤ c x := by
  cases l with
  | nil => cases hx
  | cons a r =>
    show c (pickF c a r) ≤ c x
    rcases List.mem_cons.1 hx with rfl | hx
    · exact (pickF_le c r x).1
    · exact (pickF_le c r a).2 x hx
theorem ch_mem {s : PS} (h : Gp s) : chW s ∈ wyL s := pick_mem _ (wy_pos h)
theorem ch_le {s : PS} {x : Nat} (hx : x ∈ wyL s) : cn 256 (rdW s (chW s)) ≤ cn 256 (rdW s x) := pick_le (fun k => cn 256 (rdW s k)) hx
theorem cn_none (n : Nat) (f : Nat → Bool) (h : ∀ i, i < n → f i = false) : cn n f = 0 := by
  have e : fl n f = [] := List.eq_nil_iff_forall_not_mem.2 fun i hi => by
    have h1 := (fl_mem n f i).1 hi
    rw [h i h1.1] at h1
    cases h1.2
  rw [← fl_len, e]; rfl
theorem ch_full {s : PS} (h : Gp s) : (chW s = 0) ↔ mayW s 0 = true := by
  constructor
  · intro e
    have := ch_mem h
    rw [e] at this
    exact ((wy_mem h 0).1 this).2
  · intro e
    have hw : ∃ r, wyL s = 0 :: r := by
      rw [wy_ok h]
      unfold wyN wyN wyN wyN wyN
      rw [if_pos e]
      exact ⟨_, rfl⟩
    obtain ⟨r, hr⟩ := hw
    unfold chW pick
    rw [hr]
    exact pickF_zero _ r 0 (cn_none _ _ (fun i _ => rfl))

end Go.Proofs.YtffbachgbcefiaaDoor
