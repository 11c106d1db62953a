/-
  A text's bytes in a list of one's own, one of them turned; the lowest bits of a byte. No condition.
-/
import Derived.Test.YtobpgfnmhpgkeaaLbGet
import Derived.Laws.IdiomStrings
namespace Go.Proofs.Ytobpgfnmhpgkeaa
open Go.RowKit Plain
set_option linter.unusedVariables false

theorem bytes_of (w : World) (s : ByteArray) : ∃ c W', (convert 9 48 (.string s)).run Try.prog w = .ok (.slice (some ⟨w.heap.size, 0, none⟩) s.size c) W' ∧ s.size ≤ c ∧ Kp w W' ∧ Byt W' w.heap.size s.size (fun i => bf s i) := by
  refine ⟨_, _, run_bytes_of_string (P := Try.prog) w 9 48 5 s Try.underlying9 Try.underlying48 Try.underlying5, grownCap_ge _ _ _ _, ?_, ?_⟩
  · exact (Kp.refl w).drew.alloc _
  · refine ⟨fun i hi => ?_, fun i hi => ?_⟩
    · have := World.cell?_alloc_mark w.drew (bytesRow s (grownCap w s.size 0 5)) 5 ((bytesRow s (grownCap w s.size 0 5)).size, (bytesRow s (grownCap w s.size 0 5)).size + 1) i
      refine this.trans ?_
      rw [bytesRow_at s _ i hi, ← bf_at s i hi]
      rfl
    · have := World.frozen?_alloc_mark w.drew (bytesRow s (grownCap w s.size 0 5)) 5 (bytesRow s (grownCap w s.size 0 5)).size ((bytesRow s (grownCap w s.size 0 5)).size + 1) i
      refine this.trans ?_
      have hz : s.size ≤ (bytesRow s (grownCap w s.size 0 5)).size := by unfold bytesRow; simp
      simp
      omega
/-- a list that lay there before block B was made is as it was where B alone was stored into. -/
theorem Trd.nl {B : Nat} {w5 w6 V : World} {v : Value} {l : List Int} (t : Trd B w6 V) (k : Kp w5 w6) (h : Nl w5 v l) (hB : B = w5.heap.size) : Nl V v l := by
  obtain ⟨a, g, off, cap, rfl, h⟩ := h
  refine ⟨a, g, off, cap, rfl, ⟨h.le, h.mx, h.ha, fun j hj => ?_⟩⟩
  have h1 := h.c j hj
  have h2 := World.block_lt_of_cell? _ _ h1
  exact t.held (by simp only at h2; omega) (k.held h1)
theorem low6 (a : Nat) (h : a < 256) : bits .and .u8 (a : Int) 63 = ((a % 64 : Nat) : Int) := by
  have key : ∀ a, a < 256 → bits .and .u8 ((a : Nat) : Int) 63 = ((a % 64 : Nat) : Int) := by decide +kernel
  exact key a h
theorem turn8 (x y : Nat) (hx : x < 256) (hy : y < 256) : bits .xor .u8 (x : Int) (y : Int) = ((x ^^^ y : Nat) : Int) := u8_xor_nat x y hx hy
/-- a good label's sector with one byte turned is none. -/
theorem turned_is {L : LB} (h : lg L = true) (j y : Nat) (hj : j < 64) (hy : y < 256) : (gtE (bs 64 (fun i => if i = j then sb L j ^^^ y else sb L i)) == 0) = ((y : Int) == 0) := by
  have hs := sb_lt (lg_gl h) j
  have h1 := gt_turned h j (sb L j ^^^ y) hj (Nat.xor_lt_two_pow (n := 8) hs hy)
  have h2 : sb L j ^^^ y = sb L j ↔ y = 0 := by
    constructor
    · intro e
      have := congrArg (fun z => sb L j ^^^ z) e
      simpa [xor_back] using this
    · intro e; rw [e]; simp
  by_cases hy0 : y = 0
  · rw [beq_iff_eq.2 (h1.2 (h2.2 hy0)), hy0]; rfl
  · rw [beq_eq_false_iff_ne.2 (fun e => hy0 (h2.1 (h1.1 e)))]
    exact (beq_eq_false_iff_ne.2 (by omega)).symm

end Go.Proofs.Ytobpgfnmhpgkeaa
