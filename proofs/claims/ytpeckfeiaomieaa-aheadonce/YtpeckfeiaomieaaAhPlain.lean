/-
  What a planner is, plainly, and what a Note makes of it. Plain facts; no condition.
-/
import Derived.Test.YtpeckfeiaomieaaQuFrm
namespace Go.Proofs.Ytpeckfeiaomieaa
open Go.RowKit Plain
set_option linter.unusedVariables false

/-- a planner: the block that comes next, its run, its window, its end; blocks, row, most. -/
structure AS where
  n : Int
  r : Int
  w : Int
  e : Int
  B : Int
  R : Int
  M : Int
structure Ak (S : AS) : Prop where
  B1 : 1 ≤ S.B
  B2 : S.B ≤ 1099511627776
  R1 : 1 ≤ S.R
  R2 : S.R ≤ 32
  M1 : 1 ≤ S.M
  M2 : S.M ≤ 64
  n1 : 0 ≤ S.n
  n2 : S.n ≤ S.B
  r1 : 0 ≤ S.r
  r2 : S.r ≤ S.n
  w1 : 0 ≤ S.w
  w2 : S.w ≤ 64
  e1 : 0 ≤ S.e
  e2 : S.e ≤ S.B
def askS (S : AS) (b : Int) : AS := if S.r = 0 ∨ b ≠ S.n then ⟨b + 1, 1, 0, b + 1, S.B, S.R, S.M⟩ else ⟨b + 1, S.r + 1, S.w, S.e, S.B, S.R, S.M⟩
def farS (S : AS) : Bool := decide (S.w / 2 < S.e - S.n)
def widS (S : AS) : AS := ⟨S.n, S.r, min (max (2 * S.w) 2) S.M, S.e, S.B, S.R, S.M⟩
def rdI (x R : Int) : Int := (x + R - 1) / R * R
def toS (S : AS) : Int := min (rdI (S.n + S.w) S.R) S.B
def frS (S : AS) : Int := max S.e S.n
def endS (S : AS) : AS := ⟨S.n, S.r, S.w, toS S, S.B, S.R, S.M⟩
def newS (B R M : Int) : AS := ⟨0, 0, 0, 0, B, R, M⟩
/-- how a Note ends: 0 refused, 1 too early or enough, 2 no place, 3 told. -/
def wayS (S : AS) (b : Int) : Nat := if b < 0 ∨ S.B ≤ b then 0 else if (askS S b).r < 2 ∨ farS (askS S b) = true then 1 else if toS (widS (askS S b)) ≤ frS (widS (askS S b)) then 2 else 3
def ntK (S : AS) (b : Int) : Nat → AS
  | 0 => S
  | 1 => askS S b
  | 2 => widS (askS S b)
  | _ => endS (widS (askS S b))
def ntS (S : AS) (b : Int) : AS := ntK S b (wayS S b)
def ntB (S : AS) (b : Int) : Bool := wayS S b == 3
def ntF (S : AS) (b : Int) : Int := if wayS S b = 3 then frS (widS (askS S b)) else 0
def ntT (S : AS) (b : Int) : Int := if wayS S b = 3 then toS (widS (askS S b)) else 0
theorem way_lt (S : AS) (b : Int) : wayS S b = 0 ∨ wayS S b = 1 ∨ wayS S b = 2 ∨ wayS S b = 3 := by
  unfold wayS
  split
  · exact .inl rfl
  · split
    · exact .inr (.inl rfl)
    · split
      · exact .inr (.inr (.inl rfl))
      · exact .inr (.inr (.inr rfl))
theorem way0 {S : AS} {b : Int} : wayS S b = 0 ↔ b < 0 ∨ S.B ≤ b := by
  unfold wayS
  split
  · simp_all
  · split
    · simp_all
    · split <;> simp_all
theorem way1 {S : AS} {b : Int} : wayS S b = 1 ↔ (0 ≤ b ∧ b < S.B) ∧ ((askS S b).r < 2 ∨ farS (askS S b) = true) := by
  unfold wayS
  split
  · rename_i h; simp; intro h1 h2; omega
  · rename_i h
    have h0 : 0 ≤ b ∧ b < S.B := by omega
    split
    · simp_all
    · split <;> simp_all
theorem way2 {S : AS} {b : Int} : wayS S b = 2 ↔ (0 ≤ b ∧ b < S.B) ∧ (2 ≤ (askS S b).r ∧ farS (askS S b) = false) ∧ toS (widS (askS S b)) ≤ frS (widS (askS S b)) := by
  unfold wayS
  split
  · rename_i h; simp; intro h1 h2; omega
  · rename_i h
    have h0 : 0 ≤ b ∧ b < S.B := by omega
    split
    · rename_i h1
      simp only [h0, and_self, true_and]
      refine ⟨fun h => by omega, fun h => ?_⟩
      rcases h1 with h1 | h1
      · omega
      · rw [h.1.2] at h1; cases h1
    · rename_i h1
      have h2 : 2 ≤ (askS S b).r := by have := fun h => h1 (.inl h); omega
      have h3 : farS (askS S b) = false := by
        cases hf : farS (askS S b)
        · rfl
        · exact absurd (.inr hf) h1
      split <;> simp_all
theorem way3 {S : AS} {b : Int} : wayS S b = 3 ↔ (0 ≤ b ∧ b < S.B) ∧ (2 ≤ (askS S b).r ∧ farS (askS S b) = false) ∧ frS (widS (askS S b)) < toS (widS (askS S b)) := by
  unfold wayS
  split
  · rename_i h; simp; intro h1 h2; omega
  · rename_i h
    have h0 : 0 ≤ b ∧ b < S.B := by omega
    split
    · rename_i h1
      simp only [h0, and_self, true_and]
      refine ⟨fun h => by omega, fun h => ?_⟩
      rcases h1 with h1 | h1
      · omega
      · rw [h.1.2] at h1; cases h1
    · rename_i h1
      have h2 : 2 ≤ (askS S b).r := by have := fun h => h1 (.inl h); omega
      have h3 : farS (askS S b) = false := by
        cases hf : farS (askS S b)
        · rfl
        · exact absurd (.inr hf) h1
      split
      · rename_i h4; simp_all
      · rename_i h4; simp_all
theorem nt_at {S : AS} {b : Int} (k : Nat) (h : wayS S b = k) : ntS S b = ntK S b k ∧ ntB S b = (k == 3) := by
  subst h
  exact ⟨rfl, rfl⟩
theorem nt_zero {S : AS} {b : Int} (h : wayS S b ≠ 3) : ntF S b = 0 ∧ ntT S b = 0 := by
  unfold ntF ntT
  rw [if_neg h, if_neg h]
  exact ⟨rfl, rfl⟩
theorem nt_told {S : AS} {b : Int} (h : wayS S b = 3) : ntF S b = frS (widS (askS S b)) ∧ ntT S b = toS (widS (askS S b)) := by
  unfold ntF ntT
  rw [if_pos h, if_pos h]
  exact ⟨rfl, rfl⟩
theorem ask_new {S : AS} {b : Int} (h : S.r = 0 ∨ b ≠ S.n) : askS S b = ⟨b + 1, 1, 0, b + 1, S.B, S.R, S.M⟩ := if_pos h
theorem ask_on {S : AS} {b : Int} (h : ¬(S.r = 0 ∨ b ≠ S.n)) : askS S b = ⟨b + 1, S.r + 1, S.w, S.e, S.B, S.R, S.M⟩ := if_neg h
theorem Ak.new {B R M : Int} (h1 : 1 ≤ B) (h2 : B ≤ 1099511627776) (h3 : 1 ≤ R) (h4 : R ≤ 32) (h5 : 1 ≤ M) (h6 : M ≤ 64) : Ak (newS B R M) := by
  constructor <;> simp only [newS] <;> omega
theorem Ak.ask {S : AS} (h : Ak S) {b : Int} (h1 : 0 ≤ b) (h2 : b < S.B) : Ak (askS S b) := by
  obtain ⟨a1, a2, a3, a4, a5, a6, a7, a8, a9, b1, b2, b3, b4, b5⟩ := h
  by_cases hn : S.r = 0 ∨ b ≠ S.n
  · rw [ask_new hn]; constructor <;> simp only <;> omega
  · rw [ask_on hn]; constructor <;> simp only <;> omega
theorem Ak.wid {S : AS} (h : Ak S) : Ak (widS S) := by
  obtain ⟨a1, a2, a3, a4, a5, a6, a7, a8, a9, b1, b2, b3, b4, b5⟩ := h
  constructor <;> simp only [widS] <;> omega
theorem rd_le {x R : Int} (h : 1 ≤ R) : x ≤ rdI x R ∧ rdI x R < x + R := by
  unfold rdI
  have h1 := Int.emod_add_mul_ediv (x + R - 1) R
  have h2 := Int.emod_nonneg (x + R - 1) (show R ≠ 0 by omega)
  have h3 := Int.emod_lt_of_pos (x + R - 1) (show 0 < R by omega)
  rw [Int.mul_comm] at h1
  omega
theorem rd_mod (x R : Int) : rdI x R % R = 0 := by unfold rdI; exact Int.mul_emod_left _ _
theorem Ak.to {S : AS} (h : Ak S) : 0 ≤ toS S ∧ toS S ≤ S.B ∧ min (S.n + S.w) S.B ≤ toS S := by
  have := rd_le (x := S.n + S.w) h.R1
  unfold toS
  have := h.n1; have := h.w1; have := h.B1
  omega
theorem Ak.fin {S : AS} (h : Ak S) : Ak (endS S) := by
  have ht := h.to
  obtain ⟨a1, a2, a3, a4, a5, a6, a7, a8, a9, b1, b2, b3, b4, b5⟩ := h
  constructor <;> simp only [endS] <;> omega
theorem Ak.nt {S : AS} (h : Ak S) (b : Int) : Ak (ntS S b) := by
  rcases way_lt S b with hw | hw | hw | hw <;> rw [(nt_at _ hw).1]
  · exact h
  · exact h.ask (way1.1 hw).1.1 (way1.1 hw).1.2
  · exact (h.ask (way2.1 hw).1.1 (way2.1 hw).1.2).wid
  · exact (h.ask (way3.1 hw).1.1 (way3.1 hw).1.2).wid.fin
theorem nt_sz (S : AS) (b : Int) : (ntS S b).B = S.B ∧ (ntS S b).R = S.R ∧ (ntS S b).M = S.M := by
  have ha : (askS S b).B = S.B ∧ (askS S b).R = S.R ∧ (askS S b).M = S.M := by unfold askS; split <;> exact ⟨rfl, rfl, rfl⟩
  rcases way_lt S b with hw | hw | hw | hw <;> rw [(nt_at _ hw).1]
  · exact ⟨rfl, rfl, rfl⟩
  · exact ha
  · exact ha
  · exact ha

end Go.Proofs.Ytpeckfeiaomieaa
