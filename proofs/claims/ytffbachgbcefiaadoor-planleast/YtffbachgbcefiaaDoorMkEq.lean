/-
  Sets compared, and pairs of numbers: two sets are one, if they hold the same numbers. No condition.
-/
import Derived.Test.YtffbachgbcefiaaDoorMkSet
namespace Go.Proofs.YtffbachgbcefiaaDoor
open Go.RowKit Plain
set_option linter.unusedVariables false

theorem eq4 (a b c d a' b' c' d' : Int) (w : World) :
    (Op.equalIn 10000 28 (.agg #[.int .u64 a, .int .u64 b, .int .u64 c, .int .u64 d]) (.agg #[.int .u64 a', .int .u64 b', .int .u64 c', .int .u64 d'])).run Tryd.prog w = .ok (a == a' && (b == b' && (c == c' && d == d'))) w := by
  have u3 := Tryd.underlying22
  have a3 := Tryd.isAgg22
  have z3 := Tryd.sizeOf22
  rw [show (10000 : Nat) = 9999 + 1 from rfl, Op.equalIn]
  simp only [Sem.run_bind, run_underlying Tryd.underlying28, Result.andThen_ok]
  simp only [Std.Legacy.Range.forIn_eq_forIn_range', Std.Legacy.Range.size, Nat.sub_zero, Nat.add_sub_cancel, Nat.div_one, List.range'_succ, List.range'_zero, List.forIn_cons, List.forIn_nil]
  go_simp
  by_cases h1 : a = a' <;> by_cases h2 : b = b' <;> by_cases h3 : c = c' <;> by_cases h4 : d = d' <;> simp [h1, h2, h3, h4]

def eqB (f g : Nat → Bool) : Bool := wd f 0 == wd g 0 && (wd f 1 == wd g 1 && (wd f 2 == wd g 2 && wd f 3 == wd g 3))
theorem eqB_true (f g : Nat → Bool) : eqB f g = true ↔ ∀ k, k < 4 → wd f k = wd g k := by
  unfold eqB
  simp only [Bool.and_eq_true, beq_iff_eq]
  constructor
  · rintro ⟨h0, h1, h2, h3⟩ k hk
    have h : k = 0 ∨ k = 1 ∨ k = 2 ∨ k = 3 := by omega
    rcases h with rfl | rfl | rfl | rfl
    · exact h0
    · exact h1
    · exact h2
    · exact h3
  · intro h
    exact ⟨h 0 (by omega), h 1 (by omega), h 2 (by omega), h 3 (by omega)⟩
theorem eqB_of {f g : Nat → Bool} (h : ∀ i, i < 256 → f i = g i) : eqB f g = true := (eqB_true f g).2 (fun k hk => wd_congr f g h k hk)
theorem eqB_iff {f g : Nat → Bool} (h : eqB f g = true) : ∀ i, i < 256 → f i = g i := wd_inj f g ((eqB_true f g).1 h)
theorem beq_cast (a b : Nat) : ((a : Int) == (b : Int)) = (a == b) := by
  rw [Bool.eq_iff_iff, beq_iff_eq, beq_iff_eq]
  omega
theorem eqB_words (f g : Nat → Bool) : (((wd f 0 : Nat) : Int) == ((wd g 0 : Nat) : Int) && (((wd f 1 : Nat) : Int) == ((wd g 1 : Nat) : Int) && (((wd f 2 : Nat) : Int) == ((wd g 2 : Nat) : Int) && ((wd f 3 : Nat) : Int) == ((wd g 3 : Nat) : Int)))) = eqB f g := by
  rw [beq_cast, beq_cast, beq_cast, beq_cast]
  rfl
theorem eqS (f g : Nat → Bool) (w : World) : (Op.equalIn 10000 28 (SV f) (SV g)).run Tryd.prog w = .ok (eqB f g) w := by
  unfold SV
  rw [eq4, eqB_words]
def noF (_ : Nat) : Bool := false
theorem no_word (k : Nat) : wd noF k = 0 := wn_zero 64 _ (fun _ _ => rfl)
theorem SV_no : SV noF = .agg #[.int .u64 0, .int .u64 0, .int .u64 0, .int .u64 0] := by
  unfold SV
  rw [no_word, no_word, no_word, no_word]; rfl
def emB (f : Nat → Bool) : Bool := eqB f noF
theorem emB_of {f : Nat → Bool} (h : ∀ i, i < 256 → f i = false) : emB f = true := eqB_of h
theorem emB_not {f : Nat → Bool} (i : Nat) (hi : i < 256) (h : f i = true) : emB f = false := by
  unfold emB
  cases e : eqB f noF with
  | false => rfl
  | true =>
    have := eqB_iff e i hi
    rw [h] at this
    cases this

end Go.Proofs.YtffbachgbcefiaaDoor
