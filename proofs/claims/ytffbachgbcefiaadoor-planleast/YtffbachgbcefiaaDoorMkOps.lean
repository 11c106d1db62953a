/-
  Contracts of marks' Or, And, Less, Empty, alone, With, Without, Has and Upto: sets by their numbers. No condition but that a number is one of 64 bits.
-/
import Derived.Test.YtffbachgbcefiaaDoorMkEq
namespace Go.Proofs.YtffbachgbcefiaaDoor
open Go.RowKit Plain
set_option linter.unusedVariables false

def no4 (_ : Nat) : Nat := 0
theorem A4.cells {w : World} {b : Nat} {v : Nat → Nat} (h : A4 w b v) : w.cell? ⟨b, 0, none⟩ = some (.int .u64 (v 0 : Nat)) ∧ w.cell? ⟨b, 1, none⟩ = some (.int .u64 (v 1 : Nat)) ∧ w.cell? ⟨b, 2, none⟩ = some (.int .u64 (v 2 : Nat)) ∧ w.cell? ⟨b, 3, none⟩ = some (.int .u64 (v 3 : Nat)) :=
  ⟨h.c 0 (by omega), h.c 1 (by omega), h.c 2 (by omega), h.c 3 (by omega)⟩
set_option maxRecDepth 100000 in
set_option maxHeartbeats 1000000 in
theorem or_any (f g : Nat → Bool) (w : World) : Calls Tryd.prog 41 #[SV f, SV g] w fun e w' => e = .returned (SV (orF f g)) ∧ Kp w w' := by
  obtain ⟨w0, hw0⟩ : ∃ w0, w0 = ((w.alloc (.cells (w4 (wd f)) 28)).alloc (.cells (w4 (wd g)) 28)).alloc (.cells (w4 no4) 28) := ⟨_, rfl⟩
  have a3 : A4 w0 (w.heap.size + 2) no4 := by
    have := A4.new ((w.alloc (.cells (w4 (wd f)) 28)).alloc (.cells (w4 (wd g)) 28)) no4 28
    rw [hw0]
    simpa using this
  have k0 : Kp w w0 := by rw [hw0]; exact (((Kp.refl w).alloc _).alloc _).alloc _
  have H := orT_any f g w0
  have HW : Hid (w0 = ((w.alloc (.cells (w4 (wd f)) 28)).alloc (.cells (w4 (wd g)) 28)).alloc (.cells (w4 no4) 28)) := hw0
  clear hw0
  unfold SV at H ⊢
  go_enter Tryd.func41, Tryd.ntmps41
  go_wp2_with fail
  rw [HW.out] at H a3 k0
  clear HW
  refine H.mono ?_; rintro e w1 ⟨rfl, k1⟩
  clear H
  have a4 := a3.kept k1
  obtain ⟨d0, d1, d2, d3⟩ := a4.cells
  have z := a4.z
  have HA : Hid (A4 (put4 w1 (w.heap.size + 2) (wd (orF f g))) (w.heap.size + 2) (wd (orF f g)) ∧ Kp w (put4 w1 (w.heap.size + 2) (wd (orF f g)))) := ⟨a4.put _, (k0.trans k1).put4 (by omega) _⟩
  clear a3 a4 k0 k1
  go_wp2
  refine bodyPost_ret (results_set rfl _ _ (w.heap.size + 2) (wd (orF f g)) rfl HA.out.1) rfl ?_
  exact ⟨rfl, HA.out.2⟩
set_option maxRecDepth 100000 in
set_option maxHeartbeats 1000000 in
theorem and_any (f g : Nat → Bool) (w : World) : Calls Tryd.prog 15 #[SV f, SV g] w fun e w' => e = .returned (SV (andF f g)) ∧ Kp w w' := by
  obtain ⟨w0, hw0⟩ : ∃ w0, w0 = ((w.alloc (.cells (w4 (wd f)) 28)).alloc (.cells (w4 (wd g)) 28)).alloc (.cells (w4 no4) 28) := ⟨_, rfl⟩
  have a3 : A4 w0 (w.heap.size + 2) no4 := by
    have := A4.new ((w.alloc (.cells (w4 (wd f)) 28)).alloc (.cells (w4 (wd g)) 28)) no4 28
    rw [hw0]
    simpa using this
  have k0 : Kp w w0 := by rw [hw0]; exact (((Kp.refl w).alloc _).alloc _).alloc _
  have H := andT_any f g w0
  have HW : Hid (w0 = ((w.alloc (.cells (w4 (wd f)) 28)).alloc (.cells (w4 (wd g)) 28)).alloc (.cells (w4 no4) 28)) := hw0
  clear hw0
  unfold SV at H ⊢
  go_enter Tryd.func15, Tryd.ntmps15
  go_wp2_with fail
  rw [HW.out] at H a3 k0
  clear HW
  refine H.mono ?_; rintro e w1 ⟨rfl, k1⟩
  clear H
  have a4 := a3.kept k1
  obtain ⟨d0, d1, d2, d3⟩ := a4.cells
  have z := a4.z
  have HA : Hid (A4 (put4 w1 (w.heap.size + 2) (wd (andF f g))) (w.heap.size + 2) (wd (andF f g)) ∧ Kp w (put4 w1 (w.heap.size + 2) (wd (andF f g)))) := ⟨a4.put _, (k0.trans k1).put4 (by omega) _⟩
  clear a3 a4 k0 k1
  go_wp2
  refine bodyPost_ret (results_set rfl _ _ (w.heap.size + 2) (wd (andF f g)) rfl HA.out.1) rfl ?_
  exact ⟨rfl, HA.out.2⟩
set_option maxRecDepth 100000 in
set_option maxHeartbeats 1000000 in
theorem less_any (f g : Nat → Bool) (w : World) : Calls Tryd.prog 39 #[SV f, SV g] w fun e w' => e = .returned (SV (lessF f g)) ∧ Kp w w' := by
  obtain ⟨w0, hw0⟩ : ∃ w0, w0 = ((w.alloc (.cells (w4 (wd f)) 28)).alloc (.cells (w4 (wd g)) 28)).alloc (.cells (w4 no4) 28) := ⟨_, rfl⟩
  have a3 : A4 w0 (w.heap.size + 2) no4 := by
    have := A4.new ((w.alloc (.cells (w4 (wd f)) 28)).alloc (.cells (w4 (wd g)) 28)) no4 28
    rw [hw0]
    simpa using this
  have k0 : Kp w w0 := by rw [hw0]; exact (((Kp.refl w).alloc _).alloc _).alloc _
  have H := lessT_any f g w0
  have HW : Hid (w0 = ((w.alloc (.cells (w4 (wd f)) 28)).alloc (.cells (w4 (wd g)) 28)).alloc (.cells (w4 no4) 28)) := hw0
  clear hw0
  unfold SV at H ⊢
  go_enter Tryd.func39, Tryd.ntmps39
  go_wp2_with fail
  rw [HW.out] at H a3 k0
  clear HW
  refine H.mono ?_; rintro e w1 ⟨rfl, k1⟩
  clear H
  have a4 := a3.kept k1
  obtain ⟨d0, d1, d2, d3⟩ := a4.cells
  have z := a4.z
  have HA : Hid (A4 (put4 w1 (w.heap.size + 2) (wd (lessF f g))) (w.heap.size + 2) (wd (lessF f g)) ∧ Kp w (put4 w1 (w.heap.size + 2) (wd (lessF f g)))) := ⟨a4.put _, (k0.trans k1).put4 (by omega) _⟩
  clear a3 a4 k0 k1
  go_wp2
  refine bodyPost_ret (results_set rfl _ _ (w.heap.size + 2) (wd (lessF f g)) rfl HA.out.1) rfl ?_
  exact ⟨rfl, HA.out.2⟩

def oneF (i : Int) (j : Nat) : Bool := decide ((j : Int) = i)
theorem one_word (n k : Nat) (hn : n < 256) : wd (oneF n) k = upd no4 (n / 64) (2 ^ (n % 64)) k := by
  unfold upd wd oneF no4
  by_cases h : k = n / 64
  · rw [if_pos h, ← wn_one (n % 64) (by omega)]
    exact wn_congr 64 _ _ (fun j hj => decide_eq_decide.2 (by omega))
  · rw [if_neg h]
    exact wn_zero 64 _ (fun j hj => decide_eq_false (by omega))
theorem one_none (i : Int) (h : ¬ (0 ≤ i ∧ i < 256)) (k : Nat) (hk : k < 4) : wd (oneF i) k = 0 :=
  wn_zero 64 _ (fun j hj => decide_eq_false (by omega))
theorem two_r (n : Nat) : IntKind.u64.wrap (2 ^ (n % 64)) = ((2 ^ (n % 64) : Nat) : Int) := by
  have h : 2 ^ (n % 64) < 2 ^ 64 := Nat.pow_lt_pow_right (by omega) (by omega)
  have e : (2 : Int) ^ (n % 64) = ((2 ^ (n % 64) : Nat) : Int) := by rw [Int.natCast_pow]; rfl
  rw [e, IntKind.wrap_u64]
  generalize 2 ^ (n % 64) = y at *
  omega
theorem w4_congr {v u : Nat → Nat} (h : ∀ j, j < 4 → v j = u j) : w4 v = w4 u := by
  unfold w4
  rw [h 0 (by omega), h 1 (by omega), h 2 (by omega), h 3 (by omega)]
theorem SV_w4 (f : Nat → Bool) : SV f = .agg (w4 (wd f)) := rfl
set_option maxRecDepth 100000 in
set_option maxHeartbeats 1000000 in
theorem alone_0 (n : Nat) (hn : n < 256) (hq : n / 64 = 0) (w : World) : Calls Tryd.prog 46 #[.int .i64 n] w fun e w' => e = .returned (.agg (w4 (upd no4 0 (2 ^ (n % 64))))) ∧ Kp w w' := by
  have q1 : (n : Int) / 64 = 0 := by omega
  have r1 := two_r n
  obtain ⟨x, hx⟩ : ∃ x : Nat, x = 2 ^ (n % 64) := ⟨_, rfl⟩
  rw [← hx] at r1 ⊢
  have HA : Hid (A4 ((w.alloc (.cells (w4 (upd no4 0 x)) 28)).alloc (.cells (w4 (upd no4 0 x)) 28)) w.heap.size (upd no4 0 x) ∧ Kp w ((w.alloc (.cells (w4 (upd no4 0 x)) 28)).alloc (.cells (w4 (upd no4 0 x)) 28))) :=
    ⟨(A4.new w _ _).alloc _, ((Kp.refl w).alloc _).alloc _⟩
  clear hx
  go_enter Tryd.func46, Tryd.ntmps46
  go_wp2
  refine bodyPost_ret (results_set rfl _ _ w.heap.size (upd no4 0 x) rfl HA.out.1) rfl ?_
  exact ⟨rfl, HA.out.2⟩
set_option maxRecDepth 100000 in
set_option maxHeartbeats 1000000 in
theorem alone_1 (n : Nat) (hn : n < 256) (hq : n / 64 = 1) (w : World) : Calls Tryd.prog 46 #[.int .i64 n] w fun e w' => e = .returned (.agg (w4 (upd no4 1 (2 ^ (n % 64))))) ∧ Kp w w' := by
  have q1 : (n : Int) / 64 = 1 := by omega
  have r1 := two_r n
  obtain ⟨x, hx⟩ : ∃ x : Nat, x = 2 ^ (n % 64) := ⟨_, rfl⟩
  rw [← hx] at r1 ⊢
  have HA : Hid (A4 ((w.alloc (.cells (w4 (upd no4 1 x)) 28)).alloc (.cells (w4 (upd no4 1 x)) 28)) w.heap.size (upd no4 1 x) ∧ Kp w ((w.alloc (.cells (w4 (upd no4 1 x)) 28)).alloc (.cells (w4 (upd no4 1 x)) 28))) :=
    ⟨(A4.new w _ _).alloc _, ((Kp.refl w).alloc _).alloc _⟩
  clear hx
  go_enter Tryd.func46, Tryd.ntmps46
  go_wp2
  refine bodyPost_ret (results_set rfl _ _ w.heap.size (upd no4 1 x) rfl HA.out.1) rfl ?_
  exact ⟨rfl, HA.out.2⟩
set_option maxRecDepth 100000 in
set_option maxHeartbeats 1000000 in
theorem alone_2 (n : Nat) (hn : n < 256) (hq : n / 64 = 2) (w : World) : Calls Tryd.prog 46 #[.int .i64 n] w fun e w' => e = .returned (.agg (w4 (upd no4 2 (2 ^ (n % 64))))) ∧ Kp w w' := by
  have q1 : (n : Int) / 64 = 2 := by omega
  have r1 := two_r n
  obtain ⟨x, hx⟩ : ∃ x : Nat, x = 2 ^ (n % 64) := ⟨_, rfl⟩
  rw [← hx] at r1 ⊢
  have HA : Hid (A4 ((w.alloc (.cells (w4 (upd no4 2 x)) 28)).alloc (.cells (w4 (upd no4 2 x)) 28)) w.heap.size (upd no4 2 x) ∧ Kp w ((w.alloc (.cells (w4 (upd no4 2 x)) 28)).alloc (.cells (w4 (upd no4 2 x)) 28))) :=
    ⟨(A4.new w _ _).alloc _, ((Kp.refl w).alloc _).alloc _⟩
  clear hx
  go_enter Tryd.func46, Tryd.ntmps46
  go_wp2
  refine bodyPost_ret (results_set rfl _ _ w.heap.size (upd no4 2 x) rfl HA.out.1) rfl ?_
  exact ⟨rfl, HA.out.2⟩
set_option maxRecDepth 100000 in
set_option maxHeartbeats 1000000 in
theorem alone_3 (n : Nat) (hn : n < 256) (hq : n / 64 = 3) (w : World) : Calls Tryd.prog 46 #[.int .i64 n] w fun e w' => e = .returned (.agg (w4 (upd no4 3 (2 ^ (n % 64))))) ∧ Kp w w' := by
  have q1 : (n : Int) / 64 = 3 := by omega
  have r1 := two_r n
  obtain ⟨x, hx⟩ : ∃ x : Nat, x = 2 ^ (n % 64) := ⟨_, rfl⟩
  rw [← hx] at r1 ⊢
  have HA : Hid (A4 ((w.alloc (.cells (w4 (upd no4 3 x)) 28)).alloc (.cells (w4 (upd no4 3 x)) 28)) w.heap.size (upd no4 3 x) ∧ Kp w ((w.alloc (.cells (w4 (upd no4 3 x)) 28)).alloc (.cells (w4 (upd no4 3 x)) 28))) :=
    ⟨(A4.new w _ _).alloc _, ((Kp.refl w).alloc _).alloc _⟩
  clear hx
  go_enter Tryd.func46, Tryd.ntmps46
  go_wp2
  refine bodyPost_ret (results_set rfl _ _ w.heap.size (upd no4 3 x) rfl HA.out.1) rfl ?_
  exact ⟨rfl, HA.out.2⟩
set_option maxRecDepth 100000 in
set_option maxHeartbeats 1000000 in
theorem alone_out (i : Int) (hi : ¬ (0 ≤ i ∧ i < 256)) (w : World) : Calls Tryd.prog 46 #[.int .i64 i] w fun e w' => e = .returned (.agg (w4 no4)) ∧ Kp w w' := by
  have HA : Hid (A4 ((w.alloc (.cells (w4 no4) 28)).alloc (.cells (w4 no4) 28)) w.heap.size no4 ∧ Kp w ((w.alloc (.cells (w4 no4) 28)).alloc (.cells (w4 no4) 28))) :=
    ⟨(A4.new w _ _).alloc _, ((Kp.refl w).alloc _).alloc _⟩
  by_cases h0 : 0 ≤ i
  · have h1 : 256 ≤ i := by omega
    clear hi
    go_enter Tryd.func46, Tryd.ntmps46
    go_wp2
    refine bodyPost_ret (results_set rfl _ _ w.heap.size no4 rfl HA.out.1) rfl ?_
    exact ⟨rfl, HA.out.2⟩
  · have h1 : i < 0 := by omega
    clear hi h0
    go_enter Tryd.func46, Tryd.ntmps46
    go_wp2
    refine bodyPost_ret (results_set rfl _ _ w.heap.size no4 rfl HA.out.1) rfl ?_
    exact ⟨rfl, HA.out.2⟩
theorem alone_any (i : Int) (w : World) : Calls Tryd.prog 46 #[.int .i64 i] w fun e w' => e = .returned (SV (oneF i)) ∧ Kp w w' := by
  by_cases h : 0 ≤ i ∧ i < 256
  · obtain ⟨n, rfl⟩ : ∃ n : Nat, i = n := ⟨i.toNat, by omega⟩
    have hn : n < 256 := by omega
    have e : SV (oneF n) = .agg (w4 (upd no4 (n / 64) (2 ^ (n % 64)))) := by
      rw [SV_w4, w4_congr (fun j _ => one_word n j hn)]
    rw [e]
    have hq : n / 64 = 0 ∨ n / 64 = 1 ∨ n / 64 = 2 ∨ n / 64 = 3 := by omega
    rcases hq with hq | hq | hq | hq <;> rw [hq]
    · exact alone_0 n hn hq w
    · exact alone_1 n hn hq w
    · exact alone_2 n hn hq w
    · exact alone_3 n hn hq w
  · have e : SV (oneF i) = .agg (w4 no4) := by
      rw [SV_w4, w4_congr (fun j hj => one_none i h j hj)]; rfl
    rw [e]
    exact alone_out i h w
set_option maxRecDepth 100000 in
set_option maxHeartbeats 1000000 in
theorem empty_any (f : Nat → Bool) (w : World) : Calls Tryd.prog 16 #[SV f] w fun e w' => e = .returned (.bool (emB f)) ∧ Kp w w' := by
  have hE := eqS f noF
  rw [SV_no] at hE
  have hE' : ∀ w, (Op.equalIn 10000 28 (SV f) (.agg #[.int .u64 0, .int .u64 0, .int .u64 0, .int .u64 0])).run Tryd.prog w = .ok (emB f) w := hE
  clear hE
  unfold SV at hE' ⊢
  go_enter Tryd.func16, Tryd.ntmps16
  go_wp2
  go_ret
  exact ⟨rfl, (Kp.refl w).alloc _⟩

/-- the numbers below n. -/
def upF (n : Int) (j : Nat) : Bool := decide ((j : Int) < n)
def upW (m k : Nat) : Nat := if m ≤ 64 * k then 0 else if 64 * (k + 1) ≤ m then 18446744073709551615 else 2 ^ (m - 64 * k) - 1
theorem up_word (n : Int) (m : Nat) (hm : max n 0 = (m : Int)) (k : Nat) : wd (upF n) k = upW m k := by
  unfold upW wd upF
  by_cases h1 : m ≤ 64 * k
  · rw [if_pos h1]
    exact wn_zero 64 _ (fun j hj => decide_eq_false (by omega))
  · rw [if_neg h1]
    by_cases h2 : 64 * (k + 1) ≤ m
    · rw [if_pos h2]
      have := wn_below 64 (by omega)
      rw [show (18446744073709551615 : Nat) = 2 ^ 64 - 1 from rfl, ← this]
      exact wn_congr 64 _ _ (fun j hj => decide_eq_decide.2 (by omega))
    · rw [if_neg h2, ← wn_below (m - 64 * k) (by omega)]
      exact wn_congr 64 _ _ (fun j hj => decide_eq_decide.2 (by omega))
theorem pow_ints (d : Nat) (h : d ≤ 64) : IntKind.u64.wrap (1 * 2 ^ d) = ((if d = 64 then 0 else 2 ^ d : Nat) : Int) := by
  have e : (1 : Int) * 2 ^ d = ((2 ^ d : Nat) : Int) := by rw [Int.one_mul, Int.natCast_pow]; rfl
  rw [e, IntKind.wrap_u64]
  by_cases hd : d = 64
  · subst hd; rw [if_pos rfl]; rfl
  · have h : 2 ^ d < 2 ^ 64 := Nat.pow_lt_pow_right (by omega) (by omega)
    rw [if_neg hd]
    generalize 2 ^ d = y at *
    omega
def shW (m k : Nat) : Nat := if m - 64 * k ≥ 64 then 0 else 2 ^ (m - 64 * k)
theorem sh_run (m k : Nat) (w : World) : (Op.shift .shl .u64 1 .i64 (max ((m : Int) - (k : Int) * 64) 0)).run Tryd.prog w = .ok (.int .u64 (shW m k : Nat)) w := by
  have e : (max ((m : Int) - (k : Int) * 64) 0).toNat = m - 64 * k := by omega
  have hn : ¬ (max ((m : Int) - (k : Int) * 64) 0 < 0) := by omega
  unfold Op.shift
  rw [if_neg hn, e]
  have hb : IntKind.u64.bits = 64 := rfl
  simp only [hb, Sem.run_pure]
  rw [pow_ints _ (by omega)]
  unfold shW
  by_cases hd : m - 64 * k ≥ 64
  · rw [if_pos hd, if_pos (by omega)]
  · rw [if_neg hd, if_neg (by omega), show min (m - 64 * k) 64 = m - 64 * k by omega]
theorem sh_up (m k : Nat) : IntKind.u64.wrap ((shW m k : Int) - 1) = (upW m k : Int) := by
  rw [IntKind.wrap_u64]
  unfold shW upW
  by_cases h1 : m ≤ 64 * k
  · rw [if_pos h1, if_neg (by omega), show m - 64 * k = 0 by omega]; rfl
  · rw [if_neg h1]
    by_cases h2 : 64 * (k + 1) ≤ m
    · rw [if_pos h2, if_pos (by omega)]; rfl
    · rw [if_neg h2, if_neg (by omega)]
      have h : 2 ^ (m - 64 * k) < 2 ^ 64 := Nat.pow_lt_pow_right (by omega) (by omega)
      have hp := Nat.two_pow_pos (m - 64 * k)
      generalize 2 ^ (m - 64 * k) = y at *
      omega
def upK (n : Int) (k j : Nat) : Nat := if j < k then wd (upF n) j else 0
theorem upK_step (n : Int) (k j : Nat) : upd (upK n k) k (wd (upF n) k) j = upK n (k + 1) j := by
  unfold upd upK
  by_cases e : j = k
  · subst e; rw [if_pos rfl, if_pos (by omega)]
  · rw [if_neg e]
    by_cases e2 : j < k
    · rw [if_pos e2, if_pos (by omega)]
    · rw [if_neg e2, if_neg (by omega)]
set_option maxRecDepth 100000 in
set_option maxHeartbeats 2000000 in
theorem upto_any (n : Int) (hn1 : n ≤ 9223372036854775807) (w : World) : Calls Tryd.prog 18 #[.int .i64 n] w fun e w' => e = .returned (SV (upF n)) ∧ Kp w w' := by
  have a1 := (A4.new w no4 28).alloc (.cells (w4 no4) 28)
  have a2 := A4.new (w.alloc (.cells (w4 no4) 28)) no4 28
  have K0 : Kp w ((w.alloc (.cells (w4 no4) 28)).alloc (.cells (w4 no4) 28)) := ((Kp.refl w).alloc _).alloc _
  have e1 : (w.alloc (.cells (w4 no4) 28)).heap.size = w.heap.size + 1 := by simp
  rw [e1] at a2
  clear e1
  obtain ⟨m, hm⟩ : ∃ m : Nat, max n 0 = (m : Int) := ⟨(max n 0).toNat, by omega⟩
  have hm1 : m ≤ 9223372036854775807 := by omega
  have HM : Hid (max n 0 = (m : Int)) := hm
  unfold SV
  go_enter Tryd.func18, Tryd.ntmps18
  go_wp2
  go_loopw [8] (fun i wr => ∃ k : Nat, k ≤ 4 ∧ i = .int .i64 k ∧ A4 wr (w.heap.size + 1) (upK n k) ∧ A4 wr w.heap.size no4 ∧ Kp w wr) (fun i _ => 4 - (intOf i).toNat)
  case atStart => exact ⟨0, by omega, rfl, a2.congr (fun j _ => by unfold upK no4; rw [if_neg (by omega)]), a1, K0⟩
  case round =>
    clear a1 a2 K0 hm
    obtain ⟨k, hk, rfl, h1, h2, hK⟩ := hrel
    by_cases hlt : k < 4
    · have c1 := h1.c k hlt
      have z1 := h1.z k
      have HS : Hid (A4 (wr.setCell ⟨w.heap.size + 1, k, none⟩ (.int .u64 (wd (upF n) k : Nat))) (w.heap.size + 1) (upK n (k + 1)) ∧ A4 (wr.setCell ⟨w.heap.size + 1, k, none⟩ (.int .u64 (wd (upF n) k : Nat))) w.heap.size no4 ∧ Kp w (wr.setCell ⟨w.heap.size + 1, k, none⟩ (.int .u64 (wd (upF n) k : Nat)))) :=
        ⟨(h1.set k _ hlt).congr (fun j _ => upK_step n k j), h2.far (by omega) _ _, hK.set (by omega) _ _⟩
      have HU := up_word n m HM.out k
      rw [HU] at HS
      have hS := sh_run m k
      have hU := sh_up m k
      clear h1 h2 hK HU
      go_wp2
      go_roundw
      case rel => exact ⟨k + 1, by omega, by go_num, HS.out⟩
      case measure => simp [intOf]; omega
    · obtain rfl : k = 4 := by omega
      obtain ⟨c0, c1, c2, c3⟩ := h1.cells
      obtain ⟨d0, d1, d2, d3⟩ := h2.cells
      have z3 := h2.z
      simp only [upK] at c0 c1 c2 c3
      rw [if_pos (by omega)] at c0 c1 c2 c3
      have HA : Hid (A4 (put4 wr w.heap.size (wd (upF n))) w.heap.size (wd (upF n)) ∧ Kp w (put4 wr w.heap.size (wd (upF n)))) := ⟨h2.put _, hK.put4 (by omega) _⟩
      clear h1 h2 hK
      go_wp2
      refine bodyPost_ret (results_set rfl _ _ w.heap.size (wd (upF n)) rfl HA.out.1) rfl ?_
      exact ⟨rfl, HA.out.2⟩

end Go.Proofs.YtffbachgbcefiaaDoor
