/-
  A planner in memory, and contracts of its small calls. Conditions: that the object lies in memory.
-/
import Derived.Test.YtpeckfeiaomieaaAhPlain
import Derived.Deep.LoopGhost
import Derived.WalkKit
import Derived.BigQuiet
import Derived.Deep.QuietTactic
import Derived.Deep.RegionWith
import Derived.Deep.RegionHeld3
import Derived.Deep.DeepCutAuto
import Derived.Deep.CutBlock
namespace Go.Proofs.Ytpeckfeiaomieaa
open Go.RowKit Plain
set_option linter.unusedVariables false

theorem hid {p : Prop} (h : p) : Hid p := h
theorem heap_lt {w : World} {a : Nat} {o : Obj} (h : w.heap[a]? = some o) : a < w.heap.size := (Array.getElem?_eq_some_iff.1 h).1
theorem cell_of {w : World} {a : Nat} {cs : Array Value} {t : TypeId} {f : Nat × Nat} (h : w.heap[a]? = some (.cells cs t f)) (j : Nat) : w.cell? ⟨a, j, none⟩ = cs[j]? := by
  unfold World.cell?
  simp [h]
theorem frozen_of {w : World} {a : Nat} {cs : Array Value} {t : TypeId} (h : w.heap[a]? = some (.cells cs t (0, 0))) (j : Nat) : w.frozen? ⟨a, j, none⟩ = false := by
  unfold World.frozen?
  simp [h]
theorem heap_set {w : World} {a : Nat} {cs : Array Value} {t : TypeId} (h : w.heap[a]? = some (.cells cs t (0, 0))) (j : Nat) (v : Value) : (w.setCell ⟨a, j, none⟩ v).heap[a]? = some (.cells (cs.setIfInBounds j v) t (0, 0)) := by
  rw [setCell_eq_setRow w a j _ t (0, 0) v h, setRow_heap w a _ _ t _ h]
theorem new_obj (w : World) (cs : Array Value) (t : TypeId) : (w.alloc (.cells cs t)).heap[w.heap.size]? = some (.cells cs t (0, 0)) := by unfold World.alloc; exact Array.getElem?_push_size
theorem imin {P : Program} (ts : Array TypeId) (t : TypeId) (x y : Int) (w : World) : (Builtin.min_ ts t #[.int .i64 x, .int .i64 y]).run P w = .ok (.int .i64 (min x y)) w := by
  rw [run_min_int2]
  congr 2
  split <;> omega
theorem imax {P : Program} (ts : Array TypeId) (t : TypeId) (x y : Int) (w : World) : (Builtin.max_ ts t #[.int .i64 x, .int .i64 y]).run P w = .ok (.int .i64 (max x y)) w := by
  rw [run_max_int2]
  congr 2
  split <;> omega

theorem Kp.drewN {a b : World} (h : Kp a b) (n : Nat) : Kp a (b.drewN n) := ⟨h.os, h.tape, h.output, h.size, h.block⟩
/-- a planner's cells. -/
def pcs (S : AS) : Array Value := #[.int .i64 S.n, .int .i64 S.r, .int .i64 S.w, .int .i64 S.e, .int .i64 S.B, .int .i64 S.R, .int .i64 S.M]
def At (w : World) (a : Nat) (S : AS) : Prop := w.heap[a]? = some (.cells (pcs S) 52 (0, 0))
section
variable {w w' : World} {a : Nat} {S : AS}
theorem At.lt (h : At w a S) : a < w.heap.size := heap_lt h
theorem At.c0 (h : At w a S) : w.cell? ⟨a, 0, none⟩ = some (.int .i64 S.n) := cell_of h 0
theorem At.c1 (h : At w a S) : w.cell? ⟨a, 1, none⟩ = some (.int .i64 S.r) := cell_of h 1
theorem At.c2 (h : At w a S) : w.cell? ⟨a, 2, none⟩ = some (.int .i64 S.w) := cell_of h 2
theorem At.c3 (h : At w a S) : w.cell? ⟨a, 3, none⟩ = some (.int .i64 S.e) := cell_of h 3
theorem At.c4 (h : At w a S) : w.cell? ⟨a, 4, none⟩ = some (.int .i64 S.B) := cell_of h 4
theorem At.c5 (h : At w a S) : w.cell? ⟨a, 5, none⟩ = some (.int .i64 S.R) := cell_of h 5
theorem At.c6 (h : At w a S) : w.cell? ⟨a, 6, none⟩ = some (.int .i64 S.M) := cell_of h 6
theorem At.z (h : At w a S) (j : Nat) : w.frozen? ⟨a, j, none⟩ = false := frozen_of h j
theorem At.kp (h : At w a S) (k : Kp w w') : At w' a S := (k.block a h.lt).trans h
theorem At.sp (h : At w a S) {T : List Nat} (k : Sp T w w') (hT : a ∉ T) : At w' a S := (k.block a h.lt hT).trans h
end

set_option maxRecDepth 100000 in
theorem begin_any {w : World} {a : Nat} {S : AS} (h : At w a S) (e : Int) : Calls Try.prog 18 #[.pointer (some ⟨a, 0, none⟩), .int .i64 e] w fun x w' => x = .returned (.tuple #[]) ∧ At w' a ⟨0, 0, 0, e, S.B, S.R, S.M⟩ ∧ Sp [a] w w' := by
  have c0 := h.c0
  have c1 := h.c1
  have c2 := h.c2
  have c3 := h.c3
  have z0 := h.z 0
  have z1 := h.z 1
  have z2 := h.z 2
  have z3 := h.z 3
  have HA := hid h
  clear h
  go_enter Try.func18, Try.ntmps18
  go_wp2
  go_end0
  refine ⟨rfl, heap_set (heap_set (heap_set (heap_set HA.out _ _) _ _) _ _) _ _, ?_⟩
  exact ((((Sp.refl [a] w).set a 0 (by simp) _).set a 1 (by simp) _).set a 2 (by simp) _).set a 3 (by simp) _
set_option maxRecDepth 100000 in
theorem ask_any {w : World} {a : Nat} {S : AS} (h : At w a S) (hk : Ak S) (b : Int) (h1 : 0 ≤ b) (h2 : b < S.B) : Calls Try.prog 19 #[.pointer (some ⟨a, 0, none⟩), .int .i64 b] w fun x w' => x = .returned (.tuple #[]) ∧ At w' a (askS S b) ∧ Sp [a] w w' := by
  have q1 := hk.B2
  have q2 := hk.r1
  have q3 := hk.r2
  have q4 := hk.n2
  clear hk
  by_cases hn : S.r = 0 ∨ b ≠ S.n
  · rw [ask_new hn]
    have hB := begin_any h (b + 1)
    have c0 := h.c0
    have c1 := h.c1
    clear h
    obtain ⟨n, r, wi, e, B, R, M⟩ := S
    simp only at hn hB c0 c1 h2 q1 q2 q3 q4 ⊢
    have key : ∀ U, At U a ⟨0, 0, 0, b + 1, B, R, M⟩ → Sp [a] w U → At ((U.setCell ⟨a, 1, none⟩ (.int .i64 1)).setCell ⟨a, 0, none⟩ (.int .i64 (b + 1))) a ⟨b + 1, 1, 0, b + 1, B, R, M⟩ ∧ Sp [a] w ((U.setCell ⟨a, 1, none⟩ (.int .i64 1)).setCell ⟨a, 0, none⟩ (.int .i64 (b + 1))) := fun U h k => ⟨heap_set (heap_set h _ _) _ _, (k.set a 1 (by simp) _).set a 0 (by simp) _⟩
    by_cases hr : r = 0
    · subst hr
      go_enter Try.func19, Try.ntmps19
      go_wp2_with fail
      refine hB.mono ?_; rintro e w1 ⟨rfl, u1, k1⟩
      have d1 := u1.c1
      have z0 := u1.z 0
      have z1 := u1.z 1
      have d0 := u1.c0
      have HU := hid (key _ u1 k1)
      clear hB c0 c1 u1 k1 key
      go_wp2
      go_end0
      exact ⟨rfl, HU.out.1, HU.out.2⟩
    · have hne : (b != n) = true := by rcases hn with h | h; exact absurd h hr; simpa using h
      clear hn
      go_enter Try.func19, Try.ntmps19
      go_wp2_with fail
      refine hB.mono ?_; rintro e w1 ⟨rfl, u1, k1⟩
      have d1 := u1.c1
      have z0 := u1.z 0
      have z1 := u1.z 1
      have d0 := u1.c0
      have HU := hid (key _ u1 k1)
      clear hB c0 c1 u1 k1 key
      go_wp2
      go_end0
      exact ⟨rfl, HU.out.1, HU.out.2⟩
  · rw [ask_on hn]
    have c0 := h.c0
    have c1 := h.c1
    have z0 := h.z 0
    have z1 := h.z 1
    have HA := hid h
    clear h
    obtain ⟨n, r, wi, e, B, R, M⟩ := S
    simp only at hn c0 c1 h2 q1 q2 q3 q4 HA ⊢
    have hr : r ≠ 0 := fun h => hn (.inl h)
    obtain rfl : b = n := by
      by_cases h : b = n
      · exact h
      · exact absurd (.inr h) hn
    clear hn
    go_enter Try.func19, Try.ntmps19
    go_wp2
    go_end0
    exact ⟨rfl, heap_set (heap_set HA.out _ _) _ _, ((Sp.refl [a] w).set a 1 (by simp) _).set a 0 (by simp) _⟩
set_option maxRecDepth 100000 in
theorem far_any {w : World} {a : Nat} {S : AS} (h : At w a S) (hk : Ak S) : Calls Try.prog 20 #[.pointer (some ⟨a, 0, none⟩)] w fun x w' => x = .returned (.bool (farS S)) ∧ Kp w w' := by
  have q1 := hk.B2
  have q4 := hk.n2
  have q5 := hk.n1
  have q6 := hk.w1
  have q7 := hk.w2
  have q8 := hk.e1
  have q9 := hk.e2
  have c0 := h.c0
  have c2 := h.c2
  have c3 := h.c3
  clear h hk
  obtain ⟨n, r, wi, e, B, R, M⟩ := S
  simp only at c0 c2 c3 q1 q4 q5 q6 q7 q8 q9
  unfold farS
  simp only
  have hd : wi.tdiv 2 = wi / 2 := Int.tdiv_eq_ediv_of_nonneg q6
  go_enter Try.func20, Try.ntmps20
  go_wp2_with fail
  go_quiet (fail)
  go_wp2
  go_ret
  exact ⟨rfl, Kp.drewN (Kp.refl w) _⟩
set_option maxRecDepth 100000 in
theorem widen_any {w : World} {a : Nat} {S : AS} (h : At w a S) (hk : Ak S) : Calls Try.prog 21 #[.pointer (some ⟨a, 0, none⟩), .int .i64 S.M] w fun x w' => x = .returned (.tuple #[]) ∧ At w' a (widS S) ∧ Sp [a] w w' := by
  have hmin := @imin Try.prog
  have hmax := @imax Try.prog
  have q6 := hk.w1
  have q7 := hk.w2
  have c2 := h.c2
  have z2 := h.z 2
  have HA := hid h
  clear h hk
  obtain ⟨n, r, wi, e, B, R, M⟩ := S
  simp only at c2 q6 q7 HA ⊢
  go_enter Try.func21, Try.ntmps21
  go_wp2
  go_end0
  exact ⟨rfl, heap_set HA.out _ _, (Sp.refl [a] w).set a 2 (by simp) _⟩
set_option maxRecDepth 100000 in
theorem run_any {w : World} {a : Nat} {S : AS} (h : At w a S) : Calls Try.prog 13 #[.pointer (some ⟨a, 0, none⟩)] w fun x w' => x = .returned (.int .i64 S.r) ∧ Kp w w' := by
  have c1 := h.c1
  clear h
  go_enter Try.func13, Try.ntmps13
  go_wp2
  go_ret
  exact ⟨rfl, Kp.refl w⟩
set_option maxRecDepth 100000 in
theorem window_any {w : World} {a : Nat} {S : AS} (h : At w a S) : Calls Try.prog 14 #[.pointer (some ⟨a, 0, none⟩)] w fun x w' => x = .returned (.int .i64 S.w) ∧ Kp w w' := by
  have c2 := h.c2
  clear h
  go_enter Try.func14, Try.ntmps14
  go_wp2
  go_ret
  exact ⟨rfl, Kp.refl w⟩
set_option maxRecDepth 100000 in
theorem reset_any {w : World} {a : Nat} {S : AS} (h : At w a S) : Calls Try.prog 9 #[.pointer (some ⟨a, 0, none⟩)] w fun x w' => x = .returned (.tuple #[]) ∧ At w' a (newS S.B S.R S.M) ∧ Sp [a] w w' := by
  have hB := begin_any h 0
  clear h
  go_enter Try.func9, Try.ntmps9
  go_wp2_with fail
  refine hB.mono ?_; rintro e w1 ⟨rfl, u1, k1⟩
  have HU := hid (And.intro u1 k1)
  clear hB u1 k1
  go_wp2
  go_end0
  exact ⟨rfl, HU.out.1, HU.out.2⟩
set_option maxRecDepth 100000 in
theorem nrun (w : World) : Calls Try.prog 13 #[.pointer none] w fun x w' => x = .returned (.int .i64 0) ∧ Kp w w' := by
  go_enter Try.func13, Try.ntmps13
  go_wp2
  go_ret
  exact ⟨rfl, Kp.refl w⟩
set_option maxRecDepth 100000 in
theorem nwindow (w : World) : Calls Try.prog 14 #[.pointer none] w fun x w' => x = .returned (.int .i64 0) ∧ Kp w w' := by
  go_enter Try.func14, Try.ntmps14
  go_wp2
  go_ret
  exact ⟨rfl, Kp.refl w⟩
set_option maxRecDepth 100000 in
theorem nreset (w : World) : Calls Try.prog 9 #[.pointer none] w fun x w' => x = .returned (.tuple #[]) ∧ Kp w w' := by
  go_enter Try.func9, Try.ntmps9
  go_wp2
  go_end0
  exact ⟨rfl, Kp.refl w⟩
/-! ### spans -/
def gdI (x y : Int) : Bool := decide (0 ≤ x) && decide (x < y) && decide (y ≤ 1099511627776)
theorem gd_iff (x y : Int) : gdI x y = true ↔ 0 ≤ x ∧ x < y ∧ y ≤ 1099511627776 := by
  unfold gdI
  simp only [Bool.and_eq_true, decide_eq_true_eq, and_assoc]
theorem gd_f {x y : Int} (h : ¬(0 ≤ x ∧ x < y ∧ y ≤ 1099511627776)) : gdI x y = false := by
  rw [Bool.eq_false_iff, ne_eq, gd_iff]
  exact h
set_option maxRecDepth 100000 in
theorem good1_any (x y : Int) (w : World) : Calls Try.prog 16 #[.agg #[.int .i64 x, .int .i64 y]] w fun e w' => e = .returned (.bool (gdI x y)) ∧ Kp w w' := by
  by_cases h1 : 0 ≤ x
  · by_cases h2 : x < y
    · by_cases h3 : y ≤ 1099511627776
      · rw [(gd_iff x y).2 ⟨h1, h2, h3⟩]
        go_enter Try.func16, Try.ntmps16
        go_wp2
        go_ret
        exact ⟨rfl, (Kp.refl w).alloc _⟩
      · rw [gd_f (x := x) (y := y) (by omega)]
        go_enter Try.func16, Try.ntmps16
        go_wp2
        go_ret
        exact ⟨rfl, (Kp.refl w).alloc _⟩
    · rw [gd_f (x := x) (y := y) (by omega)]
      go_enter Try.func16, Try.ntmps16
      go_wp2
      go_ret
      exact ⟨rfl, (Kp.refl w).alloc _⟩
  · rw [gd_f (x := x) (y := y) (by omega)]
    go_enter Try.func16, Try.ntmps16
    go_wp2
    go_ret
    exact ⟨rfl, (Kp.refl w).alloc _⟩
set_option maxRecDepth 100000 in
theorem len1_any (x y : Int) (h1 : 0 ≤ x) (h2 : x < y) (h3 : y ≤ 1099511627776) (w : World) : Calls Try.prog 17 #[.agg #[.int .i64 x, .int .i64 y]] w fun e w' => e = .returned (.int .i64 (y - x)) ∧ Kp w w' := by
  obtain ⟨W, hW⟩ : ∃ W, W = w.alloc (.cells #[.int .i64 x, .int .i64 y] 34) := ⟨_, rfl⟩
  have c0 : W.cell? ⟨w.heap.size, 0, none⟩ = some (.int .i64 x) := by rw [hW, World.cell?_alloc_at _ _ _ _ rfl]; rfl
  have c1 : W.cell? ⟨w.heap.size, 1, none⟩ = some (.int .i64 y) := by rw [hW, World.cell?_alloc_at _ _ _ _ rfl]; rfl
  have k0 : Kp w W := by rw [hW]; exact (Kp.refl w).alloc _
  have hG := good1_any x y W
  rw [(gd_iff x y).2 ⟨h1, h2, h3⟩] at hG
  have HW := hid hW
  rw [hW] at hG
  have HC := hid (And.intro (And.intro c0 c1) k0)
  clear hW c0 c1 k0
  go_enter Try.func17, Try.ntmps17
  go_wp2_with fail
  refine hG.mono ?_; rintro e w1 ⟨rfl, k1⟩
  rw [← HW.out] at k1
  have c0 := k1.held HC.out.1.1
  have c1 := k1.held HC.out.1.2
  have HK := hid (HC.out.2.trans k1)
  clear hG k1 HC HW
  go_wp2
  go_ret
  exact ⟨rfl, HK.out⟩

end Go.Proofs.Ytpeckfeiaomieaa
