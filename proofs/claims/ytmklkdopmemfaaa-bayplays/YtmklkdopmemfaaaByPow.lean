/-
  A bay's power in memory, and contracts of its calls: take, out, set, restore. Conditions: what the cells hold.
-/
import Derived.Test.YtmklkdopmemfaaaByFam
import Derived.Laws.LoneSync
import Derived.RegionTactic
import Derived.RegionCalls
namespace Go.Proofs.Ytmklkdopmemfaaa
open Go.RowKit Plain
set_option linter.unusedVariables false

def b01 (b : Bool) : Int := if b then 1 else 0
/-- a bay's power: is a number set, that number (it may be below 0), the steps made. -/
structure PwIn (w : World) (b : Nat) (v : Value) (pw : Option Nat) (md g : Nat) : Prop where
  hb : b < w.heap.size
  c0 : w.cell? ⟨b, 0, none⟩ = some (.int .u32 (b01 pw.isSome))
  c1 : ∃ l : Int, w.cell? ⟨b, 1, none⟩ = some (.int .i64 l) ∧ (∀ k, pw = some k → l.toNat = k) ∧ -(g : Int) ≤ l ∧ l ≤ 9223372036854775807
  c2 : w.cell? ⟨b, 2, none⟩ = some (.int .i64 (md : Int))
  z : ∀ o, w.frozen? ⟨b, o, none⟩ = false
  c3 : w.cell? ⟨b, 3, none⟩ = some v
theorem PwIn.sp {w w' : World} {b : Nat} {v : Value} {pw : Option Nat} {md g : Nat} (h : PwIn w b v pw md g) {T : List Nat} (k : Sp T w w') (hb : b ∉ T) : PwIn w' b v pw md g := by
  obtain ⟨l, h1, h2⟩ := h.c1
  exact ⟨Nat.lt_of_lt_of_le h.hb k.size, k.held h.c0 hb, ⟨l, k.held h1 hb, h2⟩, k.held h.c2 hb, fun o => (k.frozen h.hb hb o).trans (h.z o), k.held h.c3 hb⟩
theorem PwIn.more {w : World} {b : Nat} {v : Value} {pw : Option Nat} {md g : Nat} (h : PwIn w b v pw md g) : PwIn w b v pw md (g + 1) := by
  obtain ⟨l, h1, h2, h3, h4⟩ := h.c1
  exact ⟨h.hb, h.c0, ⟨l, h1, h2, by omega, h4⟩, h.c2, h.z, h.c3⟩
theorem PwIn.fails {w : World} {b : Nat} {v : Value} {pw : Option Nat} {md g : Nat} (h : PwIn w b v pw md g) : PwIn (w.setCell ⟨b, 0, none⟩ (.int .u32 0)) b v none md g := by
  obtain ⟨l, h1, h2, h3, h4⟩ := h.c1
  exact ⟨by simpa [World.setCell] using h.hb, World.cell?_setCell_same _ _ _ h.c0, ⟨l, by rw [cell_off _ _ _ _ _ (by omega)]; exact h1, fun k hk => (by cases hk), h3, h4⟩, by rw [cell_off _ _ _ _ _ (by omega)]; exact h.c2, fun o => (World.frozen?_setCell _ _ _ _).trans (h.z o), by rw [cell_off _ _ _ _ _ (by omega)]; exact h.c3⟩
/-- left, then fails. -/
theorem PwIn.set {w : World} {b : Nat} {v : Value} {pw : Option Nat} {md g : Nat} (h : PwIn w b v pw md g) (l : Int) (h0 : 0 ≤ l) (h9 : l ≤ 9223372036854775807) : PwIn ((w.setCell ⟨b, 1, none⟩ (.int .i64 l)).setCell ⟨b, 0, none⟩ (.int .u32 1)) b v (some l.toNat) md g := by
  obtain ⟨l', h1, h2, h3, h4⟩ := h.c1
  have e0 : (w.setCell ⟨b, 1, none⟩ (.int .i64 l)).cell? ⟨b, 0, none⟩ = some (.int .u32 (b01 pw.isSome)) := by rw [cell_off _ _ _ _ _ (by omega)]; exact h.c0
  refine ⟨by simpa [World.setCell] using h.hb, World.cell?_setCell_same _ _ _ e0, ⟨l, ?_, fun k hk => (by cases hk; rfl), by omega, h9⟩, ?_, fun o => (World.frozen?_setCell _ _ _ _).trans ((World.frozen?_setCell _ _ _ _).trans (h.z o)), by rw [cell_off _ _ _ _ _ (by omega), cell_off _ _ _ _ _ (by omega)]; exact h.c3⟩
  · rw [cell_off _ _ _ _ _ (by omega)]; exact World.cell?_setCell_same _ _ _ h1
  · rw [cell_off _ _ _ _ _ (by omega), cell_off _ _ _ _ _ (by omega)]; exact h.c2
/-- the number that is left, one less. -/
theorem PwIn.less {w : World} {b : Nat} {v : Value} {k md g : Nat} (h : PwIn w b v (some k) md g) (l : Int) (hl : w.cell? ⟨b, 1, none⟩ = some (.int .i64 l)) : PwIn (w.setCell ⟨b, 1, none⟩ (.int .i64 (l - 1))) b v (some (k - 1)) md (g + 1) := by
  obtain ⟨l', h1, h2, h3, h4⟩ := h.c1
  rw [hl] at h1
  cases h1
  have := h2 k rfl
  refine ⟨by simpa [World.setCell] using h.hb, by rw [cell_off _ _ _ _ _ (by omega)]; exact h.c0, ⟨l - 1, World.cell?_setCell_same _ _ _ hl, fun j hj => by cases hj; omega, by omega, by omega⟩, by rw [cell_off _ _ _ _ _ (by omega)]; exact h.c2, fun o => (World.frozen?_setCell _ _ _ _).trans (h.z o), by rw [cell_off _ _ _ _ _ (by omega)]; exact h.c3⟩
theorem PwIn.step {w : World} {b : Nat} {v : Value} {pw : Option Nat} {md g : Nat} (h : PwIn w b v pw md g) : PwIn (w.setCell ⟨b, 2, none⟩ (.int .i64 ((md + 1 : Nat) : Int))) b v pw (md + 1) g := by
  obtain ⟨l, h1, h2, h3, h4⟩ := h.c1
  exact ⟨by simpa [World.setCell] using h.hb, by rw [cell_off _ _ _ _ _ (by omega)]; exact h.c0, ⟨l, by rw [cell_off _ _ _ _ _ (by omega)]; exact h1, h2, h3, h4⟩, World.cell?_setCell_same _ _ _ h.c2, fun o => (World.frozen?_setCell _ _ _ _).trans (h.z o), by rw [cell_off _ _ _ _ _ (by omega)]; exact h.c3⟩

/-! ### the atomic cells -/
theorem bload (a : Addr) (d : Bool) (w : World) (hc : w.cell? a = some (.int .u32 (b01 d))) : Calls Try.prog 75 #[.pointer (some a)] w fun e w' => e = .returned (.bool d) ∧ w' = w := by
  have hl := run_call_load (P := Try.prog) Try.func91 (by kernel_rfl) (by kernel_rfl) (by kernel_rfl) .u32 (by kernel_rfl) hc
  cases d with
  | true =>
    simp only [b01, if_true] at hl
    go_enter Try.func75, Try.ntmps75
    go_wp2
    go_ret
    exact ⟨rfl, rfl⟩
  | false =>
    simp only [b01, Bool.false_eq_true, if_false] at hl
    go_enter Try.func75, Try.ntmps75
    go_wp2
    go_ret
    exact ⟨rfl, rfl⟩
theorem bstore (a : Addr) (x : Value) (d : Bool) (w : World) (hc : w.cell? a = some x) (hz : w.frozen? a = false) : Calls Try.prog 72 #[.pointer (some a), .bool d] w fun e w' => e = .returned (.tuple #[]) ∧ w' = w.drew.setCell a (.int .u32 (b01 d)) := by
  have hc' : w.drew.cell? a = some x := by go_simp
  have hz' : w.drew.frozen? a = false := by go_simp
  cases d with
  | true =>
    have hst := run_call_store (P := Try.prog) Try.func89 (by kernel_rfl) (by kernel_rfl) (by kernel_rfl) (by kernel_rfl) (k := .u32) (y := 1) hc' hz'
    go_enter Try.func72, Try.ntmps72
    go_wp2
    go_region_calls
    all_goals (go_end0; exact ⟨rfl, rfl⟩)
  | false =>
    have hst := run_call_store (P := Try.prog) Try.func89 (by kernel_rfl) (by kernel_rfl) (by kernel_rfl) (by kernel_rfl) (k := .u32) (y := 0) hc' hz'
    go_enter Try.func72, Try.ntmps72
    go_wp2
    go_region_calls
    all_goals (go_end0; exact ⟨rfl, rfl⟩)
theorem istore (a : Addr) (x : Value) (d : Int) (w : World) (hc : w.cell? a = some x) (hz : w.frozen? a = false) : Calls Try.prog 71 #[.pointer (some a), .int .i64 d] w fun e w' => e = .returned (.tuple #[]) ∧ w' = w.setCell a (.int .i64 d) := by
  have hst := run_call_store (P := Try.prog) Try.func88 (by kernel_rfl) (by kernel_rfl) (by kernel_rfl) (by kernel_rfl) (k := .i64) (y := d) hc hz
  go_enter Try.func71, Try.ntmps71
  go_wp2
  go_end0
  exact ⟨rfl, rfl⟩
theorem iadd (a : Addr) (d y s : Int) (w : World) (hc : w.cell? a = some (.int .i64 d)) (hz : w.frozen? a = false) (hs : s = d + y) (h1 : -9223372036854775808 ≤ s) (h2 : s ≤ 9223372036854775807) : Calls Try.prog 43 #[.pointer (some a), .int .i64 y] w fun e w' => e = .returned (.int .i64 s) ∧ w' = w.setCell a (.int .i64 s) := by
  have hadd := run_call_add (P := Try.prog) Try.func70 (by kernel_rfl) (by kernel_rfl) (by kernel_rfl) .i64 (by kernel_rfl) (y := y) (s := s) hc hz (by simp [go_sem, IntKind.wrap_i64]; omega)
  clear hs h1 h2
  go_enter Try.func43, Try.ntmps43
  go_wp2
  go_ret
  exact ⟨rfl, rfl⟩

/-! ### the power -/
theorem out_any {w : World} {b : Nat} {v : Value} {pw : Option Nat} {md g : Nat} (h : PwIn w b v pw md g) : Calls Try.prog 48 #[.pointer (some ⟨b, 0, none⟩)] w fun e w' => e = .returned (.bool (decide (pw = some 0))) ∧ w' = w := by
  have c0 := h.c0
  obtain ⟨l, c1, c2, _, _⟩ := h.c1
  clear h
  cases pw with
  | none =>
    go_enter Try.func48, Try.ntmps48
    go_wp2_with fail
    refine (bload ⟨b, 0, none⟩ false w c0).mono ?_
    rintro e w1 ⟨rfl, rfl⟩
    go_wp2
    go_ret
    exact ⟨rfl, rfl⟩
  | some k =>
    have hk := c2 k rfl
    have e : decide ((some k : Option Nat) = some 0) = decide (l ≤ 0) := by
      by_cases hl : l ≤ 0
      · rw [decide_eq_true hl, decide_eq_true_iff]; congr 1; omega
      · rw [decide_eq_false hl, decide_eq_false_iff_not]; intro h; cases h; omega
    rw [e]
    clear e hk c2
    go_enter Try.func48, Try.ntmps48
    go_wp2_with fail
    refine (bload ⟨b, 0, none⟩ true w c0).mono ?_
    rintro e w1 ⟨rfl, rfl⟩
    go_wp2_with fail
    refine (load_count ⟨b, 1, none⟩ l w1 c1).mono ?_
    rintro e w2 ⟨rfl, rfl⟩
    go_wp2
    go_ret
    exact ⟨rfl, rfl⟩
/-- is there power for a step? -/
theorem take_any {w : World} {b : Nat} {v : Value} {pw : Option Nat} {md g : Nat} (h : PwIn w b v pw md g) (hg : g < 1000000) (hm : md ≤ g) : Calls Try.prog 73 #[.pointer (some ⟨b, 0, none⟩)] w fun e w' => (e = .returned (.bool (decide (pw ≠ some 0)))) ∧ PwIn w' b v (pw.map (· - 1)) (if pw = some 0 then md else md + 1) (g + 1) ∧ Sp [b] w w' := by
  have c0 := h.c0
  obtain ⟨l, c1, c3, c4, c5⟩ := h.c1
  cases pw with
  | none =>
    have H := hid h
    have c2 := h.c2
    rw [if_neg (by simp)]
    have z2 := h.z 2
    clear h
    go_enter Try.func73, Try.ntmps73
    go_wp2_with fail
    refine (bload ⟨b, 0, none⟩ false w c0).mono ?_
    rintro e w1 ⟨rfl, rfl⟩
    go_wp2_with fail
    refine (iadd ⟨b, 2, none⟩ (md : Int) 1 ((md + 1 : Nat) : Int) w1 c2 z2 (by omega) (by omega) (by omega)).mono ?_
    rintro e w2 ⟨rfl, rfl⟩
    go_wp2
    go_ret
    exact ⟨rfl, H.out.more.step, (Sp.refl [b] w1).set b 2 (by simp) _⟩
  | some k =>
    have hk := c3 k rfl
    have H := hid h
    have z1 := h.z 1
    have hl := hid (h.less l c1)
    have K1 : Hid (Sp [b] w (w.setCell ⟨b, 1, none⟩ (.int .i64 (l - 1)))) := (Sp.refl [b] w).set b 1 (by simp) _
    clear h
    cases k with
    | zero =>
      rw [if_pos rfl]
      go_enter Try.func73, Try.ntmps73
      go_wp2_with fail
      refine (bload ⟨b, 0, none⟩ true w c0).mono ?_
      rintro e w1 ⟨rfl, rfl⟩
      go_wp2_with fail
      refine (iadd ⟨b, 1, none⟩ l (-1) (l - 1) w1 c1 z1 (by omega) (by omega) (by omega)).mono ?_
      rintro e w2 ⟨rfl, rfl⟩
      have hlt : l - 1 < 0 := by omega
      go_wp2
      go_ret
      exact ⟨rfl, hl.out, K1.out⟩
    | succ k =>
      rw [if_neg (by simp), show decide ((some (k + 1) : Option Nat) ≠ some 0) = true from by simp]
      go_enter Try.func73, Try.ntmps73
      go_wp2_with fail
      refine (bload ⟨b, 0, none⟩ true w c0).mono ?_
      rintro e w1 ⟨rfl, rfl⟩
      go_wp2_with fail
      refine (iadd ⟨b, 1, none⟩ l (-1) (l - 1) w1 c1 z1 (by omega) (by omega) (by omega)).mono ?_
      rintro e w2 ⟨rfl, rfl⟩
      have hlt : ¬ l - 1 < 0 := by omega
      have h2 := hl.out
      have c2 := h2.c2
      have z2 := h2.z 2
      clear h2
      obtain ⟨W, hW⟩ : ∃ W, W = w1.setCell ⟨b, 1, none⟩ (.int .i64 (l - 1)) := ⟨_, rfl⟩
      rw [← hW] at c2 z2 hl K1 ⊢
      clear hW
      go_wp2_with fail
      refine (iadd ⟨b, 2, none⟩ (md : Int) 1 ((md + 1 : Nat) : Int) W c2 z2 (by omega) (by omega) (by omega)).mono ?_
      rintro e w2 ⟨rfl, rfl⟩
      go_wp2
      go_ret
      exact ⟨rfl, hl.out.step, K1.out.set b 2 (by simp) _⟩
theorem set_any {w : World} {b : Nat} {v : Value} {pw : Option Nat} {md g : Nat} (h : PwIn w b v pw md g) (n : Int) (hn : (Lit.int .i64 n).wf = true) : Calls Try.prog 44 #[.pointer (some ⟨b, 0, none⟩), .int .i64 n] w fun e w' => e = .returned (.tuple #[]) ∧ PwIn w' b v (some n.toNat) md g ∧ Sp [b] w w' := by
  have hmax := @imax Try.prog
  have hb := bounds_i64 hn
  obtain ⟨l, c1, _⟩ := h.c1
  obtain ⟨x, hx⟩ : ∃ x, x = max n 0 := ⟨_, rfl⟩
  have h2 := h.set x (by omega) (by omega)
  rw [show x.toNat = n.toNat by omega] at h2
  have z1 := h.z 1
  have c0 := h.c0
  have z0 := h.z 0
  have K : Sp [b] w ((w.setCell ⟨b, 1, none⟩ (.int .i64 x)).drew.setCell ⟨b, 0, none⟩ (.int .u32 1)) := by
    have k1 : Sp [b] w (w.setCell ⟨b, 1, none⟩ (.int .i64 x)) := (Sp.refl [b] w).set b 1 (by simp) _
    exact (k1.trans ((Kp.refl _).drew.sp [b])).set b 0 (by simp) _
  have h3 : PwIn ((w.setCell ⟨b, 1, none⟩ (.int .i64 x)).drew.setCell ⟨b, 0, none⟩ (.int .u32 1)) b v (some n.toNat) md g := ⟨h2.hb, h2.c0, h2.c1, h2.c2, h2.z, h2.c3⟩
  have H3 := hid h3
  have HK := hid K
  have c0' : (w.setCell ⟨b, 1, none⟩ (.int .i64 x)).cell? ⟨b, 0, none⟩ = some (.int .u32 (b01 pw.isSome)) := by rw [cell_off _ _ _ _ _ (by omega)]; exact c0
  have z0' : (w.setCell ⟨b, 1, none⟩ (.int .i64 x)).frozen? ⟨b, 0, none⟩ = false := (World.frozen?_setCell _ _ _ _).trans z0
  have HX := hid hx
  clear h h2 h3 K hb hx
  go_enter Try.func44, Try.ntmps44
  go_wp2_with fail
  rw [← HX.out]
  refine (istore ⟨b, 1, none⟩ _ x w c1 z1).mono ?_
  rintro e w1 ⟨rfl, rfl⟩
  go_wp2_with fail
  refine (bstore ⟨b, 0, none⟩ _ true _ c0' z0').mono ?_
  rintro e w2 ⟨rfl, rfl⟩
  go_wp2
  go_end0
  exact ⟨rfl, H3.out, HK.out⟩
theorem restore_any {w : World} {b : Nat} {v : Value} {pw : Option Nat} {md g : Nat} (h : PwIn w b v pw md g) : Calls Try.prog 51 #[.pointer (some ⟨b, 0, none⟩)] w fun e w' => e = .returned (.tuple #[]) ∧ PwIn w' b v none md g ∧ Sp [b] w w' := by
  have c0 := h.c0
  have z0 := h.z 0
  have h2 := h.fails
  have h3 : PwIn (w.drew.setCell ⟨b, 0, none⟩ (.int .u32 0)) b v none md g := ⟨h2.hb, h2.c0, h2.c1, h2.c2, h2.z, h2.c3⟩
  have K : Sp [b] w (w.drew.setCell ⟨b, 0, none⟩ (.int .u32 0)) := ((Kp.refl w).drew.sp [b]).set b 0 (by simp) _
  have H3 := hid h3
  have HK := hid K
  clear h h2 h3 K
  go_enter Try.func51, Try.ntmps51
  go_wp2_with fail
  refine (bstore ⟨b, 0, none⟩ _ false w c0 z0).mono ?_
  rintro e w2 ⟨rfl, rfl⟩
  go_wp2
  go_end0
  exact ⟨rfl, H3.out, HK.out⟩

end Go.Proofs.Ytmklkdopmemfaaa
