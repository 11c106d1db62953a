/-
  The document's planner in memory, and contracts of its New and Note. Conditions: that the object lies in memory, and is as planners come.
-/
import Derived.Test.YtpeckfeiaomieaaAhMem
namespace Go.Proofs.Ytpeckfeiaomieaa
open Go.RowKit Plain
set_option linter.unusedVariables false

def nxS (S : AS) : Int := if S.r = 0 then -1 else S.n
def RAt (w : World) (a : Nat) (S : AS) : Prop := w.heap[a]? = some (.cells #[.int .i64 S.B, .int .i64 S.R, .int .i64 S.M, .int .i64 (nxS S), .int .i64 S.r, .int .i64 S.w, .int .i64 S.e] 41 (0, 0))
section
variable {w w' : World} {a : Nat} {S : AS}
theorem RAt.lt (h : RAt w a S) : a < w.heap.size := heap_lt h
theorem RAt.c0 (h : RAt w a S) : w.cell? ⟨a, 0, none⟩ = some (.int .i64 S.B) := cell_of h 0
theorem RAt.c1 (h : RAt w a S) : w.cell? ⟨a, 1, none⟩ = some (.int .i64 S.R) := cell_of h 1
theorem RAt.c2 (h : RAt w a S) : w.cell? ⟨a, 2, none⟩ = some (.int .i64 S.M) := cell_of h 2
theorem RAt.c3 (h : RAt w a S) : w.cell? ⟨a, 3, none⟩ = some (.int .i64 (nxS S)) := cell_of h 3
theorem RAt.c4 (h : RAt w a S) : w.cell? ⟨a, 4, none⟩ = some (.int .i64 S.r) := cell_of h 4
theorem RAt.c5 (h : RAt w a S) : w.cell? ⟨a, 5, none⟩ = some (.int .i64 S.w) := cell_of h 5
theorem RAt.c6 (h : RAt w a S) : w.cell? ⟨a, 6, none⟩ = some (.int .i64 S.e) := cell_of h 6
theorem RAt.z (h : RAt w a S) (j : Nat) : w.frozen? ⟨a, j, none⟩ = false := frozen_of h j
theorem RAt.kp (h : RAt w a S) (k : Kp w w') : RAt w' a S := (k.block a h.lt).trans h
theorem RAt.sp (h : RAt w a S) {T : List Nat} (k : Sp T w w') (hT : a ∉ T) : RAt w' a S := (k.block a h.lt hT).trans h
end
theorem rd_eq {x y R : Int} (hR : 1 ≤ R) (h1 : x ≤ y) (h2 : y ≤ rdI x R) (h3 : y % R = 0) : y = rdI x R := by
  have h4 := (rd_le (x := x) hR).2
  have h5 := rd_mod x R
  obtain ⟨p, rfl⟩ := Int.dvd_of_emod_eq_zero h3
  obtain ⟨q, hq⟩ := Int.dvd_of_emod_eq_zero h5
  rw [hq] at h2 h4 ⊢
  have a1 : p ≤ q := Int.le_of_mul_le_mul_left h2 (by omega)
  have a2 : R * q < R * (p + 1) := by rw [Int.mul_add, Int.mul_one]; omega
  have a3 : q < p + 1 := Int.lt_of_mul_lt_mul_left a2 (by omega)
  have : p = q := by omega
  rw [this]
theorem rd_step {x y R : Int} (hR : 1 ≤ R) (h2 : y ≤ rdI x R) (h3 : y % R ≠ 0) : y + 1 ≤ rdI x R := by
  have h5 := rd_mod x R
  have : y ≠ rdI x R := fun e => h3 (by rw [e]; exact h5)
  omega

set_option maxRecDepth 100000 in
theorem rnote0 {w : World} {a : Nat} {S : AS} (h : RAt w a S) (hk : Ak S) (b : Int) (hw : wayS S b = 0) : Calls Try.prog 12 #[.pointer (some ⟨a, 0, none⟩), .int .i64 b] w fun x w' => x = .returned (.tuple #[.int .i64 0, .int .i64 0, .bool false]) ∧ RAt w' a S ∧ Sp [a] w w' := by
  have hw := way0.1 hw
  have c0 := h.c0
  have HA := hid h
  clear h hk
  by_cases hb : b < 0
  · clear hw c0
    go_enter Try.func12, Try.ntmps12
    go_wp2
    refine bodyPost_ret (results_tmp3 rfl _ _ _) rfl ?_
    exact ⟨rfl, HA.out, Sp.refl _ _⟩
  · have hb2 : S.B ≤ b := by omega
    clear hw
    go_enter Try.func12, Try.ntmps12
    go_wp2
    refine bodyPost_ret (results_tmp3 rfl _ _ _) rfl ?_
    exact ⟨rfl, HA.out, Sp.refl _ _⟩
set_option maxRecDepth 100000 in
set_option maxHeartbeats 2000000 in
/-- none that comes next. -/
theorem rnoteN {w : World} {a : Nat} {S : AS} (h : RAt w a S) (hk : Ak S) (b : Int) (h1 : 0 ≤ b) (h2 : b < S.B) (hn : S.r = 0 ∨ b ≠ S.n) : Calls Try.prog 12 #[.pointer (some ⟨a, 0, none⟩), .int .i64 b] w fun x w' => x = .returned (.tuple #[.int .i64 0, .int .i64 0, .bool false]) ∧ RAt w' a (askS S b) ∧ Sp [a] w w' := by
  rw [ask_new hn]
  have q1 := hk.B2
  have c0 := h.c0
  have c3 := h.c3
  have c4 := h.c4
  have c5 := h.c5
  have c6 := h.c6
  have z3 := h.z 3
  have z4 := h.z 4
  have z5 := h.z 5
  have z6 := h.z 6
  obtain ⟨nx, hnx⟩ : ∃ x, x = nxS S := ⟨_, rfl⟩
  rw [← hnx] at c3
  have hne : (b == nx) = false := by
    rw [hnx]; unfold nxS
    split
    · simp; omega
    · rcases hn with h | h
      · rename_i h'; exact absurd h h'
      · simpa using h
  obtain ⟨B, hB⟩ : ∃ B, B = S.B := ⟨_, rfl⟩
  rw [← hB] at h2 c0 q1
  obtain ⟨V, hV⟩ : ∃ V, V = ((((w.setCell ⟨a, 4, none⟩ (.int .i64 1)).setCell ⟨a, 5, none⟩ (.int .i64 0)).setCell ⟨a, 6, none⟩ (.int .i64 (b + 1))).setCell ⟨a, 3, none⟩ (.int .i64 (b + 1))) := ⟨_, rfl⟩
  have hA : RAt V a ⟨b + 1, 1, 0, b + 1, S.B, S.R, S.M⟩ := by rw [hV]; exact heap_set (heap_set (heap_set (heap_set h _ _) _ _) _ _) _ _
  have hS : Sp [a] w V := by rw [hV]; exact ((((Sp.refl [a] w).set a 4 (by simp) _).set a 5 (by simp) _).set a 6 (by simp) _).set a 3 (by simp) _
  have d4 := hA.c4
  simp only at d4
  have HV := hid hV
  have HA := hid (And.intro hA hS)
  clear h hk hn hnx hB hV hA hS
  go_enter Try.func12, Try.ntmps12
  go_upto_region 9 with fail
  rw [← HV.out]
  go_wp2
  refine bodyPost_ret (results_tmp3 rfl _ _ _) rfl ?_
  exact ⟨rfl, HA.out.1, HA.out.2⟩

end Go.Proofs.Ytpeckfeiaomieaa
