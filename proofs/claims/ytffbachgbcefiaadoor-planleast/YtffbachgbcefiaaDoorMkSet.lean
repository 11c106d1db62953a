/-
  Contracts of marks' Or, And, Less and of what they stand on: a set of what one of two has, both, the first alone. No condition.
-/
import Derived.Test.YtffbachgbcefiaaDoorMkMem
namespace Go.Proofs.YtffbachgbcefiaaDoor
open Go.RowKit Plain
set_option linter.unusedVariables false

def orF (f g : Nat → Bool) (i : Nat) : Bool := f i || g i
theorem or_int (h g : Nat → Bool) : bits .or .u64 (wn 64 h : Nat) (wn 64 g : Nat) = ((wn 64 (fun j => h j || g j) : Nat) : Int) := by
  rw [u64_or_nat _ _ (wn_lt 64 h) (wn_lt 64 g), wn_or 64]
theorem or_word (f g : Nat → Bool) (k : Nat) : bits .or .u64 (wd f k : Nat) (wd g k : Nat) = ((wd (orF f g) k : Nat) : Int) := or_int _ _
theorem or1_any (x y : Nat) (w : World) : Calls Tryd.prog 45 #[.int .u64 x, .int .u64 y] w fun e w' => e = .returned (.int .u64 (bits .or .u64 x y)) ∧ w' = w := by
  go_enter Tryd.func45, Tryd.ntmps45
  go_wp2
  go_ret
  exact ⟨rfl, rfl⟩
def orK (f g : Nat → Bool) (k j : Nat) : Nat := if j < k then wd (orF f g) j else wd f j
theorem orK_step (f g : Nat → Bool) (k j : Nat) : upd (orK f g k) k (wd (orF f g) k) j = orK f g (k + 1) j := by
  unfold upd orK
  by_cases e : j = k
  · subst e; rw [if_pos rfl, if_pos (by omega)]
  · rw [if_neg e]
    by_cases e2 : j < k
    · rw [if_pos e2, if_pos (by omega)]
    · rw [if_neg e2, if_neg (by omega)]
set_option maxRecDepth 100000 in
set_option maxHeartbeats 2000000 in
theorem orT_any (f g : Nat → Bool) (w : World) : Calls Tryd.prog 33 #[SV f, SV g, .func (.func 45) #[] #[]] w fun e w' => e = .returned (SV (orF f g)) ∧ Kp w w' := by
  have a1 := A4.new w (wd f) 28
  have a2 := A4.new (w.alloc (.cells (w4 (wd f)) 28)) (wd g) 28
  have a3 := A4.new ((w.alloc (.cells (w4 (wd f)) 28)).alloc (.cells (w4 (wd g)) 28)) (fun _ => 0) 28
  have K0 : Kp w (((w.alloc (.cells (w4 (wd f)) 28)).alloc (.cells (w4 (wd g)) 28)).alloc (.cells (w4 (fun _ => 0)) 28)) := (((Kp.refl w).alloc _).alloc _).alloc _
  have b1 := (a1.alloc (.cells (w4 (wd g)) 28)).alloc (.cells (w4 (fun _ => 0)) 28)
  have b2 := a2.alloc (.cells (w4 (fun _ => 0)) 28)
  clear a1 a2
  have e0 : (w.alloc (.cells (w4 (wd f)) 28)).heap.size = w.heap.size + 1 := by simp
  have e1 : ((w.alloc (.cells (w4 (wd f)) 28)).alloc (.cells (w4 (wd g)) 28)).heap.size = w.heap.size + 2 := by simp
  rw [e0] at b2
  rw [e1] at a3
  clear e0 e1
  unfold SV
  go_enter Tryd.func33, Tryd.ntmps33
  go_wp2
  go_loopw [8] (fun i wr => ∃ k : Nat, k ≤ 4 ∧ i = .int .i64 k ∧ A4 wr w.heap.size (orK f g k) ∧ A4 wr (w.heap.size + 1) (wd g) ∧ A4 wr (w.heap.size + 2) (fun _ => 0) ∧ Kp w wr) (fun i _ => 4 - (intOf i).toNat)
  case atStart => exact ⟨0, by omega, rfl, b1.congr (fun j _ => by unfold orK; rw [if_neg (by omega)]), b2, a3, K0⟩
  case round =>
    clear b1 b2 a3 K0
    obtain ⟨k, hk, rfl, h1, h2, h3, hK⟩ := hrel
    by_cases hlt : k < 4
    · have c1 := h1.c k hlt
      rw [show orK f g k k = wd f k by unfold orK; rw [if_neg (by omega)]] at c1
      have c2 := h2.c k hlt
      have z1 := h1.z k
      have hN := or1_any (wd f k) (wd g k) wr.drew
      rw [or_word] at hN
      have HS : Hid (A4 (wr.drew.setCell ⟨w.heap.size, k, none⟩ (.int .u64 (wd (orF f g) k : Nat))) w.heap.size (orK f g (k + 1)) ∧ A4 (wr.drew.setCell ⟨w.heap.size, k, none⟩ (.int .u64 (wd (orF f g) k : Nat))) (w.heap.size + 1) (wd g) ∧ A4 (wr.drew.setCell ⟨w.heap.size, k, none⟩ (.int .u64 (wd (orF f g) k : Nat))) (w.heap.size + 2) (fun _ => 0) ∧ Kp w (wr.drew.setCell ⟨w.heap.size, k, none⟩ (.int .u64 (wd (orF f g) k : Nat)))) :=
        ⟨(h1.drew.set k _ hlt).congr (fun j _ => orK_step f g k j), h2.drew.far (by omega) _ _, h3.drew.far (by omega) _ _, hK.drew.set (Nat.le_refl _) _ _⟩
      clear h1 h2 h3 hK
      go_wp2_with fail
      go_region_with (go_at_call 45; refine hN.mono ?_; rintro e wn ⟨rfl, rfl⟩)
      all_goals (go_wp2; go_roundw)
      all_goals first | exact ⟨k + 1, by omega, by go_num, HS.out⟩ | (simp [intOf]; omega)
    · obtain rfl : k = 4 := by omega
      have c0 := h1.c 0 (by omega)
      have c1 := h1.c 1 (by omega)
      have c2 := h1.c 2 (by omega)
      have c3 := h1.c 3 (by omega)
      simp only [orK] at c0 c1 c2 c3
      rw [if_pos (by omega)] at c0 c1 c2 c3
      have d0 := h3.c 0 (by omega)
      have d1 := h3.c 1 (by omega)
      have d2 := h3.c 2 (by omega)
      have d3 := h3.c 3 (by omega)
      have z3 := h3.z
      have HA : Hid (A4 (put4 wr (w.heap.size + 2) (wd (orF f g))) (w.heap.size + 2) (wd (orF f g)) ∧ Kp w (put4 wr (w.heap.size + 2) (wd (orF f g)))) := ⟨h3.put _, hK.put4 (by omega) _⟩
      clear h1 h2 h3 hK
      go_wp2
      refine bodyPost_ret (results_set rfl _ _ (w.heap.size + 2) (wd (orF f g)) rfl HA.out.1) rfl ?_
      exact ⟨rfl, HA.out.2⟩

def andF (f g : Nat → Bool) (i : Nat) : Bool := f i && g i
theorem and_int (h g : Nat → Bool) : bits .and .u64 (wn 64 h : Nat) (wn 64 g : Nat) = ((wn 64 (fun j => h j && g j) : Nat) : Int) := by
  rw [u64_and_nat _ _ (wn_lt 64 h) (wn_lt 64 g), wn_and 64]
theorem and_word (f g : Nat → Bool) (k : Nat) : bits .and .u64 (wd f k : Nat) (wd g k : Nat) = ((wd (andF f g) k : Nat) : Int) := and_int _ _
theorem and1_any (x y : Nat) (w : World) : Calls Tryd.prog 34 #[.int .u64 x, .int .u64 y] w fun e w' => e = .returned (.int .u64 (bits .and .u64 x y)) ∧ w' = w := by
  go_enter Tryd.func34, Tryd.ntmps34
  go_wp2
  go_ret
  exact ⟨rfl, rfl⟩
def andK (f g : Nat → Bool) (k j : Nat) : Nat := if j < k then wd (andF f g) j else wd f j
theorem andK_step (f g : Nat → Bool) (k j : Nat) : upd (andK f g k) k (wd (andF f g) k) j = andK f g (k + 1) j := by
  unfold upd andK
  by_cases e : j = k
  · subst e; rw [if_pos rfl, if_pos (by omega)]
  · rw [if_neg e]
    by_cases e2 : j < k
    · rw [if_pos e2, if_pos (by omega)]
    · rw [if_neg e2, if_neg (by omega)]
set_option maxRecDepth 100000 in
set_option maxHeartbeats 2000000 in
theorem andT_any (f g : Nat → Bool) (w : World) : Calls Tryd.prog 33 #[SV f, SV g, .func (.func 34) #[] #[]] w fun e w' => e = .returned (SV (andF f g)) ∧ Kp w w' := by
  have a1 := A4.new w (wd f) 28
  have a2 := A4.new (w.alloc (.cells (w4 (wd f)) 28)) (wd g) 28
  have a3 := A4.new ((w.alloc (.cells (w4 (wd f)) 28)).alloc (.cells (w4 (wd g)) 28)) (fun _ => 0) 28
  have K0 : Kp w (((w.alloc (.cells (w4 (wd f)) 28)).alloc (.cells (w4 (wd g)) 28)).alloc (.cells (w4 (fun _ => 0)) 28)) := (((Kp.refl w).alloc _).alloc _).alloc _
  have b1 := (a1.alloc (.cells (w4 (wd g)) 28)).alloc (.cells (w4 (fun _ => 0)) 28)
  have b2 := a2.alloc (.cells (w4 (fun _ => 0)) 28)
  clear a1 a2
  have e0 : (w.alloc (.cells (w4 (wd f)) 28)).heap.size = w.heap.size + 1 := by simp
  have e1 : ((w.alloc (.cells (w4 (wd f)) 28)).alloc (.cells (w4 (wd g)) 28)).heap.size = w.heap.size + 2 := by simp
  rw [e0] at b2
  rw [e1] at a3
  clear e0 e1
  unfold SV
  go_enter Tryd.func33, Tryd.ntmps33
  go_wp2
  go_loopw [8] (fun i wr => ∃ k : Nat, k ≤ 4 ∧ i = .int .i64 k ∧ A4 wr w.heap.size (andK f g k) ∧ A4 wr (w.heap.size + 1) (wd g) ∧ A4 wr (w.heap.size + 2) (fun _ => 0) ∧ Kp w wr) (fun i _ => 4 - (intOf i).toNat)
  case atStart => exact ⟨0, by omega, rfl, b1.congr (fun j _ => by unfold andK; rw [if_neg (by omega)]), b2, a3, K0⟩
  case round =>
    clear b1 b2 a3 K0
    obtain ⟨k, hk, rfl, h1, h2, h3, hK⟩ := hrel
    by_cases hlt : k < 4
    · have c1 := h1.c k hlt
      rw [show andK f g k k = wd f k by unfold andK; rw [if_neg (by omega)]] at c1
      have c2 := h2.c k hlt
      have z1 := h1.z k
      have hN := and1_any (wd f k) (wd g k) wr.drew
      rw [and_word] at hN
      have HS : Hid (A4 (wr.drew.setCell ⟨w.heap.size, k, none⟩ (.int .u64 (wd (andF f g) k : Nat))) w.heap.size (andK f g (k + 1)) ∧ A4 (wr.drew.setCell ⟨w.heap.size, k, none⟩ (.int .u64 (wd (andF f g) k : Nat))) (w.heap.size + 1) (wd g) ∧ A4 (wr.drew.setCell ⟨w.heap.size, k, none⟩ (.int .u64 (wd (andF f g) k : Nat))) (w.heap.size + 2) (fun _ => 0) ∧ Kp w (wr.drew.setCell ⟨w.heap.size, k, none⟩ (.int .u64 (wd (andF f g) k : Nat)))) :=
        ⟨(h1.drew.set k _ hlt).congr (fun j _ => andK_step f g k j), h2.drew.far (by omega) _ _, h3.drew.far (by omega) _ _, hK.drew.set (Nat.le_refl _) _ _⟩
      clear h1 h2 h3 hK
      go_wp2_with fail
      go_region_with (go_at_call 34; refine hN.mono ?_; rintro e wn ⟨rfl, rfl⟩)
      all_goals (go_wp2; go_roundw)
      all_goals first | exact ⟨k + 1, by omega, by go_num, HS.out⟩ | (simp [intOf]; omega)
    · obtain rfl : k = 4 := by omega
      have c0 := h1.c 0 (by omega)
      have c1 := h1.c 1 (by omega)
      have c2 := h1.c 2 (by omega)
      have c3 := h1.c 3 (by omega)
      simp only [andK] at c0 c1 c2 c3
      rw [if_pos (by omega)] at c0 c1 c2 c3
      have d0 := h3.c 0 (by omega)
      have d1 := h3.c 1 (by omega)
      have d2 := h3.c 2 (by omega)
      have d3 := h3.c 3 (by omega)
      have z3 := h3.z
      have HA : Hid (A4 (put4 wr (w.heap.size + 2) (wd (andF f g))) (w.heap.size + 2) (wd (andF f g)) ∧ Kp w (put4 wr (w.heap.size + 2) (wd (andF f g)))) := ⟨h3.put _, hK.put4 (by omega) _⟩
      clear h1 h2 h3 hK
      go_wp2
      refine bodyPost_ret (results_set rfl _ _ (w.heap.size + 2) (wd (andF f g)) rfl HA.out.1) rfl ?_
      exact ⟨rfl, HA.out.2⟩

def lessF (f g : Nat → Bool) (i : Nat) : Bool := f i && !g i
theorem less_int (h g : Nat → Bool) : bits .andNot .u64 (wn 64 h : Nat) (wn 64 g : Nat) = ((wn 64 (fun j => h j && !g j) : Nat) : Int) := by
  rw [u64_andNot_nat _ _ (wn_lt 64 h) (wn_lt 64 g), wn_less]
theorem less_word (f g : Nat → Bool) (k : Nat) : bits .andNot .u64 (wd f k : Nat) (wd g k : Nat) = ((wd (lessF f g) k : Nat) : Int) := less_int _ _
theorem less1_any (x y : Nat) (w : World) : Calls Tryd.prog 44 #[.int .u64 x, .int .u64 y] w fun e w' => e = .returned (.int .u64 (bits .andNot .u64 x y)) ∧ w' = w := by
  go_enter Tryd.func44, Tryd.ntmps44
  go_wp2
  go_ret
  exact ⟨rfl, rfl⟩
def lessK (f g : Nat → Bool) (k j : Nat) : Nat := if j < k then wd (lessF f g) j else wd f j
theorem lessK_step (f g : Nat → Bool) (k j : Nat) : upd (lessK f g k) k (wd (lessF f g) k) j = lessK f g (k + 1) j := by
  unfold upd lessK
  by_cases e : j = k
  · subst e; rw [if_pos rfl, if_pos (by omega)]
  · rw [if_neg e]
    by_cases e2 : j < k
    · rw [if_pos e2, if_pos (by omega)]
    · rw [if_neg e2, if_neg (by omega)]
set_option maxRecDepth 100000 in
set_option maxHeartbeats 2000000 in
theorem lessT_any (f g : Nat → Bool) (w : World) : Calls Tryd.prog 33 #[SV f, SV g, .func (.func 44) #[] #[]] w fun e w' => e = .returned (SV (lessF f g)) ∧ Kp w w' := by
  have a1 := A4.new w (wd f) 28
  have a2 := A4.new (w.alloc (.cells (w4 (wd f)) 28)) (wd g) 28
  have a3 := A4.new ((w.alloc (.cells (w4 (wd f)) 28)).alloc (.cells (w4 (wd g)) 28)) (fun _ => 0) 28
  have K0 : Kp w (((w.alloc (.cells (w4 (wd f)) 28)).alloc (.cells (w4 (wd g)) 28)).alloc (.cells (w4 (fun _ => 0)) 28)) := (((Kp.refl w).alloc _).alloc _).alloc _
  have b1 := (a1.alloc (.cells (w4 (wd g)) 28)).alloc (.cells (w4 (fun _ => 0)) 28)
  have b2 := a2.alloc (.cells (w4 (fun _ => 0)) 28)
  clear a1 a2
  have e0 : (w.alloc (.cells (w4 (wd f)) 28)).heap.size = w.heap.size + 1 := by simp
  have e1 : ((w.alloc (.cells (w4 (wd f)) 28)).alloc (.cells (w4 (wd g)) 28)).heap.size = w.heap.size + 2 := by simp
  rw [e0] at b2
  rw [e1] at a3
  clear e0 e1
  unfold SV
  go_enter Tryd.func33, Tryd.ntmps33
  go_wp2
  go_loopw [8] (fun i wr => ∃ k : Nat, k ≤ 4 ∧ i = .int .i64 k ∧ A4 wr w.heap.size (lessK f g k) ∧ A4 wr (w.heap.size + 1) (wd g) ∧ A4 wr (w.heap.size + 2) (fun _ => 0) ∧ Kp w wr) (fun i _ => 4 - (intOf i).toNat)
  case atStart => exact ⟨0, by omega, rfl, b1.congr (fun j _ => by unfold lessK; rw [if_neg (by omega)]), b2, a3, K0⟩
  case round =>
    clear b1 b2 a3 K0
    obtain ⟨k, hk, rfl, h1, h2, h3, hK⟩ := hrel
    by_cases hlt : k < 4
    · have c1 := h1.c k hlt
      rw [show lessK f g k k = wd f k by unfold lessK; rw [if_neg (by omega)]] at c1
      have c2 := h2.c k hlt
      have z1 := h1.z k
      have hN := less1_any (wd f k) (wd g k) wr.drew
      rw [less_word] at hN
      have HS : Hid (A4 (wr.drew.setCell ⟨w.heap.size, k, none⟩ (.int .u64 (wd (lessF f g) k : Nat))) w.heap.size (lessK f g (k + 1)) ∧ A4 (wr.drew.setCell ⟨w.heap.size, k, none⟩ (.int .u64 (wd (lessF f g) k : Nat))) (w.heap.size + 1) (wd g) ∧ A4 (wr.drew.setCell ⟨w.heap.size, k, none⟩ (.int .u64 (wd (lessF f g) k : Nat))) (w.heap.size + 2) (fun _ => 0) ∧ Kp w (wr.drew.setCell ⟨w.heap.size, k, none⟩ (.int .u64 (wd (lessF f g) k : Nat)))) :=
        ⟨(h1.drew.set k _ hlt).congr (fun j _ => lessK_step f g k j), h2.drew.far (by omega) _ _, h3.drew.far (by omega) _ _, hK.drew.set (Nat.le_refl _) _ _⟩
      clear h1 h2 h3 hK
      go_wp2_with fail
      go_region_with (go_at_call 44; refine hN.mono ?_; rintro e wn ⟨rfl, rfl⟩)
      all_goals (go_wp2; go_roundw)
      all_goals first | exact ⟨k + 1, by omega, by go_num, HS.out⟩ | (simp [intOf]; omega)
    · obtain rfl : k = 4 := by omega
      have c0 := h1.c 0 (by omega)
      have c1 := h1.c 1 (by omega)
      have c2 := h1.c 2 (by omega)
      have c3 := h1.c 3 (by omega)
      simp only [lessK] at c0 c1 c2 c3
      rw [if_pos (by omega)] at c0 c1 c2 c3
      have d0 := h3.c 0 (by omega)
      have d1 := h3.c 1 (by omega)
      have d2 := h3.c 2 (by omega)
      have d3 := h3.c 3 (by omega)
      have z3 := h3.z
      have HA : Hid (A4 (put4 wr (w.heap.size + 2) (wd (lessF f g))) (w.heap.size + 2) (wd (lessF f g)) ∧ Kp w (put4 wr (w.heap.size + 2) (wd (lessF f g)))) := ⟨h3.put _, hK.put4 (by omega) _⟩
      clear h1 h2 h3 hK
      go_wp2
      refine bodyPost_ret (results_set rfl _ _ (w.heap.size + 2) (wd (lessF f g)) rfl HA.out.1) rfl ?_
      exact ⟨rfl, HA.out.2⟩

end Go.Proofs.YtffbachgbcefiaaDoor
