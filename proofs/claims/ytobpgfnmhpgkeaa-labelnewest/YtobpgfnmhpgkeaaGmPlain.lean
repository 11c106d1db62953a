/-
  Plain facts on geometries: which are good (gg), how many columns, blocks and sectors there are (dI bI xI), where a block lies (fnd), on which member a column (mM) and which column on a member (cM), rows, the stripes that blocks touch (tL). No condition.
-/
import Derived.Test.YtobpgfnmhpgkeaaPlain
namespace Go.Proofs.Ytobpgfnmhpgkeaa.Plain
set_option linter.unusedVariables false

def gg (n s : Int) : Bool := decide (4 ≤ n ∧ n ≤ 32 ∧ 1 ≤ s ∧ s ≤ 64)
theorem gg_iff (n s : Int) : gg n s = true ↔ 4 ≤ n ∧ n ≤ 32 ∧ 1 ≤ s ∧ s ≤ 64 := by simp [gg]
def dI (n s : Int) : Int := if gg n s = true then n - 2 else 0
def bI (n s : Int) : Int := if gg n s = true then (n - 2) * s else 0
def xI (n s : Int) : Int := if gg n s = true then 100 + s else 0
def inR (l : List (Int × Int)) : Bool := l.all (fun p => decide (0 ≤ p.1 ∧ p.1 < p.2))
def rfE (n s : Int) (l : List (Int × Int)) : Int := if gg n s = true then (if inR l = true then 0 else 3) else 4
theorem inR_one (x y : Int) : inR [(x, y)] = true ↔ 0 ≤ x ∧ x < y := by simp [inR]
theorem inR_two (x y u v : Int) : inR [(x, y), (u, v)] = true ↔ (0 ≤ x ∧ x < y) ∧ 0 ≤ u ∧ u < v := by simp [inR]
theorem mul_bd {a b A B : Int} (h1 : 0 ≤ a) (h2 : a ≤ A) (h3 : 0 ≤ b) (h4 : b ≤ B) : 0 ≤ a * b ∧ a * b ≤ A * B :=
  ⟨Int.mul_nonneg h1 h3, Int.mul_le_mul h2 h4 h3 (by omega)⟩
theorem mul_64 {a b : Int} (h1 : 0 ≤ a) (h2 : a ≤ 64) (h3 : 0 ≤ b) (h4 : b ≤ 30) : 0 ≤ a * b ∧ a * b ≤ 1920 := mul_bd h1 h2 h3 h4

/-! ### blocks -/
theorem div_facts {b k : Int} (hb : 0 ≤ b) (hk : 0 < k) : 0 ≤ b / k ∧ b / k ≤ b ∧ 0 ≤ b % k ∧ b % k < k ∧ b / k * k + b % k = b := by
  refine ⟨Int.ediv_nonneg hb (by omega), Int.ediv_le_self _ hb, Int.emod_nonneg _ (by omega), Int.emod_lt_of_pos _ hk, ?_⟩
  have := Int.emod_add_mul_ediv b k
  rw [Int.mul_comm k] at this
  omega
theorem div_of {t c k : Int} (h1 : 0 ≤ c) (h2 : c < k) : (t * k + c) / k = t ∧ (t * k + c) % k = c := by
  have := (Int.ediv_emod_unique (a := t * k + c) (b := k) (r := c) (q := t) (by omega)).2 ⟨by rw [Int.mul_comm]; omega, h1, h2⟩
  exact this
theorem div_lt {b k s : Int} (hb : 0 ≤ b) (hk : 0 < k) (h : b < k * s) : b / k < s := Int.ediv_lt_of_lt_mul hk (by rw [Int.mul_comm]; exact h)
/-- the stripe, the column, the error. -/
def fnd (n s b : Int) : Int × Int × Int := if gg n s = true then (if 0 ≤ b ∧ b < (n - 2) * s then (b / (n - 2), b % (n - 2), 0) else (0, 0, 3)) else (0, 0, 4)
def blk (n s t c : Int) : Int × Int := if gg n s = true then (if (0 ≤ t ∧ t < s) ∧ 0 ≤ c ∧ c < n - 2 then (t * (n - 2) + c, 0) else (0, 3)) else (0, 4)
/-! ### members -/
def sM (n t : Int) : Int := n + 1 - t % n
def mM (n t c : Int) : Int := (sM n t + c) % n
def cM (n t m : Int) : Int := (2 * n - sM n t + m) % n
theorem rem_bd (t : Int) {n : Int} (h : 0 < n) : 0 ≤ t % n ∧ t % n < n := ⟨Int.emod_nonneg _ (by omega), Int.emod_lt_of_pos _ h⟩
theorem mM_bd (t c : Int) {n : Int} (h : 0 < n) : 0 ≤ mM n t c ∧ mM n t c < n := rem_bd _ h
theorem cM_bd (t c : Int) {n : Int} (h : 0 < n) : 0 ≤ cM n t c ∧ cM n t c < n := rem_bd _ h
theorem cm_inv (n t c : Int) (h1 : 0 ≤ c) (h2 : c < n) : cM n t (mM n t c) = c := by
  unfold cM mM
  rw [Int.add_emod_emod, show 2 * n - sM n t + (sM n t + c) = c + n * 2 by omega, Int.add_mul_emod_self_left]
  exact Int.emod_eq_of_lt h1 h2
theorem mc_inv (n t m : Int) (h1 : 0 ≤ m) (h2 : m < n) : mM n t (cM n t m) = m := by
  unfold cM mM
  rw [Int.add_emod_emod, show sM n t + (2 * n - sM n t + m) = m + n * 2 by omega, Int.add_mul_emod_self_left]
  exact Int.emod_eq_of_lt h1 h2
theorem mM_inj {n t c d : Int} (h1 : 0 ≤ c) (h2 : c < n) (h3 : 0 ≤ d) (h4 : d < n) (h : mM n t c = mM n t d) : c = d := by
  rw [← cm_inv n t c h1 h2, h, cm_inv n t d h3 h4]
def mem (n s t c : Int) : Int × Int := if gg n s = true then (if (0 ≤ t ∧ t < s) ∧ 0 ≤ c ∧ c < n then (mM n t c, 0) else (0, 3)) else (0, 4)
def col (n s t m : Int) : Int × Int := if gg n s = true then (if (0 ≤ t ∧ t < s) ∧ 0 ≤ m ∧ m < n then (cM n t m, 0) else (0, 3)) else (0, 4)
def sec (n s t : Int) : Int × Int := if gg n s = true then (if 0 ≤ t ∧ t < s then (100 + t, 0) else (0, 3)) else (0, 4)
/-- the members of a stripe's columns. -/
def rowL (n t : Int) : List Int := (List.range n.toNat).map fun c : Nat => mM n t c
def row (n s t : Int) : List Int × Int := if gg n s = true then (if 0 ≤ t ∧ t < s then (rowL n t, 0) else ([], 3)) else ([], 4)
theorem rowL_len (n t : Int) : (rowL n t).length = n.toNat := by simp [rowL]
theorem rowL_at (n t : Int) (c : Nat) (h : c < n.toNat) : (rowL n t).getD c 0 = mM n t c := by
  simp [rowL, List.getD_eq_getElem?_getD, h]
/-- what a row holds behind the first k members. -/
def rF (n t : Int) (k : Nat) (c : Nat) : Int := if mM n t c < (k : Int) then mM n t c else 0
theorem rF_step (n t : Int) (k c : Nat) (hk : (k : Int) < n) (hc : (c : Int) < n) : rF n t (k + 1) c = if c = (cM n t k).toNat then (k : Int) else rF n t k c := by
  have hb := cM_bd t k (n := n) (by omega)
  unfold rF
  by_cases e : c = (cM n t k).toNat
  · have e2 : (c : Int) = cM n t k := by omega
    rw [if_pos e, e2, mc_inv n t k (by omega) hk, if_pos (by omega)]
  · rw [if_neg e]
    have hne : mM n t c ≠ (k : Int) := fun h => e (by rw [← h, cm_inv n t c (by omega) hc]; omega)
    have hm := mM_bd t c (n := n) (by omega)
    by_cases h1 : mM n t c < (k : Int)
    · rw [if_pos h1, if_pos (by omega)]
    · rw [if_neg h1, if_neg (by omega)]
theorem rF_full (n t : Int) (c : Nat) (hn : 0 < n) : rF n t n.toNat c = mM n t c := by
  have hm := mM_bd t c hn
  unfold rF
  rw [if_pos (by omega)]
theorem rF_zero (n t : Int) (c : Nat) (hn : 0 < n) : rF n t 0 c = 0 := by
  have hm := mM_bd t c hn
  unfold rF
  rw [if_neg (by omega)]
/-! ### the next member, and the next -/
def nxt (n m : Int) : Int := if m = n - 1 then 0 else m + 1
theorem nxt_mod (n m : Int) (h1 : 0 ≤ m) (h2 : m < n) : nxt n m = (m + 1) % n := by
  unfold nxt
  by_cases e : m = n - 1
  · rw [if_pos e, e, show n - 1 + 1 = n by omega, Int.emod_self]
  · rw [if_neg e, Int.emod_eq_of_lt (by omega) (by omega)]
theorem nxt_bd (n m : Int) (h1 : 0 ≤ m) (h2 : m < n) : 0 ≤ nxt n m ∧ nxt n m < n := by
  unfold nxt; split <;> omega
/-- P's member, told downwards. -/
def pM (n t : Int) : Int := n - 1 - t % n
theorem pM_bd (t : Int) {n : Int} (h : 0 < n) : 0 ≤ pM n t ∧ pM n t < n := by have := rem_bd t h; unfold pM; omega
theorem pM_zero (n : Int) : pM n 0 = n - 1 := by simp [pM]
theorem pM_step (n t : Int) (hn : 0 < n) (ht : 0 ≤ t) : pM n (t + 1) = if pM n t - 1 < 0 then n - 1 else pM n t - 1 := by
  have hb := rem_bd t hn
  unfold pM
  have h1 : (t + 1) % n = (t % n + 1) % n := by rw [Int.emod_add_emod]
  by_cases e : t % n + 1 = n
  · rw [h1, e, Int.emod_self, if_pos (by omega)]; omega
  · rw [h1, Int.emod_eq_of_lt (by omega) (by omega), if_neg (by omega)]; omega
theorem mM_p (n t : Int) (hn : 0 < n) : mM n t (n - 2) = pM n t := by
  have hb := pM_bd t hn
  unfold mM sM
  have : n + 1 - t % n + (n - 2) = pM n t + n * 1 := by unfold pM; omega
  rw [this, Int.add_mul_emod_self_left, Int.emod_eq_of_lt hb.1 hb.2]
theorem mM_q (n t : Int) (hn : 0 < n) : mM n t (n - 1) = nxt n (pM n t) := by
  have hb := pM_bd t hn
  rw [nxt_mod n _ hb.1 hb.2]
  unfold mM sM
  have : n + 1 - t % n + (n - 1) = pM n t + 1 + n * 1 := by unfold pM; omega
  rw [this, Int.add_mul_emod_self_left]
theorem mM_data (n t c : Int) (hn : 0 < n) : mM n t c = (nxt n (pM n t) + 1 + c) % n := by
  have hb := pM_bd t hn
  rw [nxt_mod n _ hb.1 hb.2]
  unfold mM sM
  have : n + 1 - t % n + c = pM n t + 1 + (1 + c) := by unfold pM; omega
  rw [this, Int.add_assoc ((pM n t + 1) % n), Int.emod_add_emod]
theorem mM_first (n t : Int) (hn : 0 < n) : mM n t 0 = nxt n (nxt n (pM n t)) := by
  have hb := pM_bd t hn
  have hq := nxt_bd n _ hb.1 hb.2
  rw [mM_data n t 0 hn, nxt_mod n (nxt n (pM n t)) hq.1 hq.2, Int.add_zero]
theorem mM_next (n t c : Int) (hn : 0 < n) : mM n t (c + 1) = nxt n (mM n t c) := by
  have hm := mM_bd t c hn
  rw [nxt_mod n _ hm.1 hm.2]
  unfold mM
  rw [Int.emod_add_emod, ← Int.add_assoc]
/-- the row's members, one behind the other. -/
def rT (n t : Int) (k : Nat) : List Int := (List.range k).map fun c : Nat => mM n t c
theorem rT_succ (n t : Int) (k : Nat) : rT n t (k + 1) = rT n t k ++ [mM n t k] := by simp [rT, List.range_succ]
theorem rT_len (n t : Int) (k : Nat) : (rT n t k).length = k := by simp [rT]
theorem rT_full (n t : Int) (k : Nat) (hn : 4 ≤ n) (hk : (k : Int) = n - 2) : rT n t k ++ [pM n t] ++ [nxt n (pM n t)] = rowL n t := by
  have e1 : mM n t k = pM n t := by rw [hk]; exact mM_p n t (by omega)
  have e2 : mM n t ((k + 1 : Nat) : Int) = nxt n (pM n t) := by
    rw [show ((k + 1 : Nat) : Int) = n - 1 by omega]; exact mM_q n t (by omega)
  rw [← e1, ← rT_succ]
  show rT n t (k + 1) ++ [_] = rowL n t
  rw [e1, ← e2, ← rT_succ]
  unfold rT rowL
  rw [show k + 1 + 1 = n.toNat by omega]
/-! ### the stripes of some blocks -/
def tP (k f c : Int) (t : Nat) : Bool := decide (0 < c ∧ (t : Int) * k < f + c ∧ f < (t : Int) * k + k)
def tL (k f c : Int) (a : Nat) : List Int := ((List.range a).filter (tP k f c)).map (fun t : Nat => (t : Int))
theorem tL_yes {k f c : Int} {a : Nat} (h : tP k f c a = true) : tL k f c (a + 1) = tL k f c a ++ [(a : Int)] := by
  simp [tL, List.range_succ, h]
theorem tL_no {k f c : Int} {a : Nat} (h : tP k f c a = false) : tL k f c (a + 1) = tL k f c a := by
  simp [tL, List.range_succ, h]
theorem tL_len (k f c : Int) (a : Nat) : (tL k f c a).length ≤ a := by
  have := List.length_filter_le (tP k f c) (List.range a)
  simpa [tL] using this
theorem tL_none {k f c : Int} : ∀ {a : Nat}, (∀ t, t < a → tP k f c t = false) → tL k f c a = []
  | 0, _ => rfl
  | a + 1, h => by rw [tL_no (h a (by omega)), tL_none (fun t ht => h t (by omega))]
theorem tL_stop {k f c : Int} {a : Nat} (h : ∀ t, a ≤ t → tP k f c t = false) (b : Nat) (hb : a ≤ b) : tL k f c b = tL k f c a := by
  obtain ⟨d, rfl⟩ : ∃ d, b = a + d := ⟨b - a, by omega⟩
  clear hb
  induction d with
  | zero => rfl
  | succ d ih => rw [show a + (d + 1) = a + d + 1 by omega, tL_no (h _ (by omega)), ih]
theorem mul_mono {k : Int} (hk : 0 < k) {a b : Nat} (h : a ≤ b) : (a : Int) * k ≤ (b : Int) * k := Int.mul_le_mul_of_nonneg_right (by omega) (by omega)
/-- behind some rounds: the next stripe is T, the next block B. -/
structure TI (k f : Int) (T : Nat) (B : Int) : Prop where
  dv : B / k = T
  ge : f ≤ B
  is : B = f ∨ B = (T : Int) * k
theorem TI.start {k f : Int} (hk : 0 < k) (hf : 0 ≤ f) (c : Int) : TI k f (f / k).toNat f ∧ tL k f c (f / k).toNat = [] := by
  have hd := div_facts hf hk
  refine ⟨⟨by omega, by omega, .inl rfl⟩, tL_none fun t ht => ?_⟩
  have h1 : ((t + 1 : Nat) : Int) * k ≤ (((f / k).toNat : Nat) : Int) * k := mul_mono hk (by omega)
  rw [show (((f / k).toNat : Nat) : Int) = f / k by omega] at h1
  have h2 : ((t + 1 : Nat) : Int) * k = (t : Int) * k + k := by rw [Int.natCast_add, Int.add_mul]; simp
  unfold tP
  apply decide_eq_false
  rintro ⟨_, _, h⟩
  omega
theorem TI.facts {k f : Int} {T : Nat} {B : Int} (h : TI k f T B) (hk : 0 < k) (hf : 0 ≤ f) : 0 ≤ B ∧ (T : Int) * k + B % k = B ∧ 0 ≤ B % k ∧ B % k < k := by
  have hd := div_facts (b := B) (k := k) (by have := h.ge; omega) hk
  rw [h.dv] at hd
  exact ⟨by have := h.ge; omega, hd.2.2.2.2, hd.2.2.1, hd.2.2.2.1⟩
theorem TI.yes {k f c : Int} {T : Nat} {B : Int} (h : TI k f T B) (hk : 0 < k) (hf : 0 ≤ f) (hB : B < f + c) : tP k f c T = true ∧ TI k f (T + 1) (B + (k - B % k)) := by
  have hq := h.facts hk hf
  have hg := h.ge
  have h2 : ((T + 1 : Nat) : Int) * k = (T : Int) * k + k := by rw [Int.natCast_add, Int.add_mul]; simp
  refine ⟨decide_eq_true ⟨by omega, by omega, by omega⟩, ⟨?_, by omega, .inr (by omega)⟩⟩
  rw [show B + (k - B % k) = ((T + 1 : Nat) : Int) * k + 0 by omega]
  exact (div_of (by omega) hk).1
theorem TI.no {k f c : Int} {T : Nat} {B : Int} (h : TI k f T B) (hk : 0 < k) (hB : ¬ B < f + c) : ∀ t, T ≤ t → tP k f c t = false := fun t ht => by
  apply decide_eq_false
  rintro ⟨h1, h2, h3⟩
  have := mul_mono hk ht
  rcases h.is with e | e <;> omega
theorem TI.lt {k f s : Int} {T : Nat} {B : Int} (h : TI k f T B) (hk : 0 < k) (hf : 0 ≤ f) (hB : B < k * s) : (T : Int) < s := by
  have := div_lt (h.facts hk hf).1 hk hB
  rw [h.dv] at this
  exact this
def tch (n s f c : Int) : List Int × Int := if gg n s = true then (if (0 ≤ f ∧ f ≤ (n - 2) * s) ∧ 0 ≤ c ∧ c ≤ (n - 2) * s - f then (tL (n - 2) f c s.toNat, 0) else ([], 3)) else ([], 4)

end Go.Proofs.Ytobpgfnmhpgkeaa.Plain
