/-
  Contracts of marks' Count, Next and Last: how many numbers a set has, the next one, the last one. Condition: that the library's table reads as its text lays it (Next).
-/
import Derived.Test.YtncdidklgpmefaaDoorMkWith
namespace Go.Proofs.YtncdidklgpmefaaDoor
open Go.RowKit Plain
set_option linter.unusedVariables false

theorem idx4 (v : Nat → Nat) (k : Nat) (hk : k < 4) (w : World) : (Instr.index 67 (.agg #[.int .u64 (v 0 : Nat), .int .u64 (v 1 : Nat), .int .u64 (v 2 : Nat), .int .u64 (v 3 : Nat)]) (.int .i64 k)).run Tryd.prog w = .ok (.int .u64 (v k : Nat)) w := by
  have u3 := Tryd.underlying65
  have a3 := Tryd.isAgg65
  have z3 := Tryd.sizeOf65
  have ut := Tryd.underlying67
  have h : k = 0 ∨ k = 1 ∨ k = 2 ∨ k = 3 := by omega
  rcases h with rfl | rfl | rfl | rfl <;> (unfold Instr.index; go_simp)
/-- how many of a word's numbers. -/
def cw (f : Nat → Bool) (k : Nat) : Nat := cn 64 (fun j => f (64 * k + j))
theorem ones_wd (f : Nat → Bool) (k : Nat) (w : World) : Calls Tryd.prog 73 #[.int .u64 (wd f k : Nat)] w fun e w' => e = .returned (.int .i64 (cw f k : Nat)) ∧ w' = w := ones_any _ w
theorem int_val {k : IntKind} {a b : Int} (h : a = b) : Value.int k a = .int k b := by rw [h]
set_option maxRecDepth 100000 in
set_option maxHeartbeats 2000000 in
theorem count_any (f : Nat → Bool) (w : World) : Calls Tryd.prog 58 #[SV f] w fun e w' => e = .returned (.int .i64 (cn 256 f : Nat)) ∧ Kp w w' := by
  have k0 : Kp w (w.alloc (.cells (w4 (wd f)) 67)) := (Kp.refl w).alloc _
  unfold SV
  go_enter Tryd.func58, Tryd.ntmps58
  go_wp2
  go_loopw [3, 7] (fun c i wr => ∃ k : Nat, k ≤ 4 ∧ i = .int .i64 k ∧ c = .int .i64 (cn (64 * k) f : Nat) ∧ wr = w.alloc (.cells (w4 (wd f)) 67)) (fun _ i _ => 4 - (intOf i).toNat)
  case atStart => exact ⟨0, by omega, rfl, rfl, rfl⟩
  case round =>
    obtain ⟨k, hk, rfl, rfl, rfl⟩ := hrel
    have hC := cn_le (64 * k) f
    have HW : Hid (cn (64 * (k + 1)) f = cn (64 * k) f + cw f k) := cn_words f k
    have hL : cw f k ≤ 64 := cn_le 64 _
    obtain ⟨c, hc⟩ : ∃ c, c = cn (64 * k) f := ⟨_, rfl⟩
    rw [← hc] at HW hC ⊢
    by_cases hlt : k < 4
    · clear hc
      have hq : k = 0 ∨ k = 1 ∨ k = 2 ∨ k = 3 := by omega
      rcases hq with rfl | rfl | rfl | rfl
      · have hN := ones_wd f 0
        have hI : ∀ w, (Instr.index 67 (.agg #[.int .u64 (wd f 0 : Nat), .int .u64 (wd f 1 : Nat), .int .u64 (wd f 2 : Nat), .int .u64 (wd f 3 : Nat)]) (.int .i64 0)).run Tryd.prog w = .ok (.int .u64 (wd f 0 : Nat)) w := idx4 (wd f) 0 (by omega)
        go_wp2_with fail
        refine (hN _).mono ?_; rintro e w' ⟨rfl, rfl⟩
        go_wp2
        go_roundw
        case rel => exact ⟨0 + 1, by omega, by go_num, by rw [HW.out]; exact int_val (by omega), trivial⟩
        case measure => simp [intOf]
      · have hN := ones_wd f 1
        have hI : ∀ w, (Instr.index 67 (.agg #[.int .u64 (wd f 0 : Nat), .int .u64 (wd f 1 : Nat), .int .u64 (wd f 2 : Nat), .int .u64 (wd f 3 : Nat)]) (.int .i64 1)).run Tryd.prog w = .ok (.int .u64 (wd f 1 : Nat)) w := idx4 (wd f) 1 (by omega)
        go_wp2_with fail
        refine (hN _).mono ?_; rintro e w' ⟨rfl, rfl⟩
        go_wp2
        go_roundw
        case rel => exact ⟨1 + 1, by omega, by go_num, by rw [HW.out]; exact int_val (by omega), trivial⟩
        case measure => simp [intOf]
      · have hN := ones_wd f 2
        have hI : ∀ w, (Instr.index 67 (.agg #[.int .u64 (wd f 0 : Nat), .int .u64 (wd f 1 : Nat), .int .u64 (wd f 2 : Nat), .int .u64 (wd f 3 : Nat)]) (.int .i64 2)).run Tryd.prog w = .ok (.int .u64 (wd f 2 : Nat)) w := idx4 (wd f) 2 (by omega)
        go_wp2_with fail
        refine (hN _).mono ?_; rintro e w' ⟨rfl, rfl⟩
        go_wp2
        go_roundw
        case rel => exact ⟨2 + 1, by omega, by go_num, by rw [HW.out]; exact int_val (by omega), trivial⟩
        case measure => simp [intOf]
      · have hN := ones_wd f 3
        have hI : ∀ w, (Instr.index 67 (.agg #[.int .u64 (wd f 0 : Nat), .int .u64 (wd f 1 : Nat), .int .u64 (wd f 2 : Nat), .int .u64 (wd f 3 : Nat)]) (.int .i64 3)).run Tryd.prog w = .ok (.int .u64 (wd f 3 : Nat)) w := idx4 (wd f) 3 (by omega)
        go_wp2_with fail
        refine (hN _).mono ?_; rintro e w' ⟨rfl, rfl⟩
        go_wp2
        go_roundw
        case rel => exact ⟨3 + 1, by omega, by go_num, by rw [HW.out]; exact int_val (by omega), trivial⟩
        case measure => simp [intOf]
    · obtain rfl : k = 4 := by omega
      clear HW
      go_wp2
      go_ret
      exact ⟨ret_int (by rw [hc]), k0⟩

/-- where a word's first number stands. -/
def tw (f : Nat → Bool) (k : Nat) : Nat := fs 64 (fun j => f (64 * k + j))
theorem tz_wd (f : Nat → Bool) (k : Nat) (w : World) (hT : Tab w) : Calls Tryd.prog 76 #[.int .u64 (wd f k : Nat)] w fun e w' => e = .returned (.int .i64 (tw f k : Nat)) ∧ w' = w := tz_any _ w hT
theorem word_none {g : Nat → Bool} {q : Nat} (h : ∀ j, j < 64 * q → g j = false) (h0 : wd g q = 0) : ∀ j, j < 64 * (q + 1) → g j = false := by
  intro j hj
  by_cases e : j < 64 * q
  · exact h j e
  · have := wn_zero_iff 64 _ h0 (j - 64 * q) (by omega)
    rw [show 64 * q + (j - 64 * q) = j by omega] at this
    exact this
theorem word_first {g : Nat → Bool} {q : Nat} (h : ∀ j, j < 64 * q → g j = false) (h0 : wd g q ≠ 0) (hq : q < 4) : fs 256 g = 64 * q + tw g q ∧ tw g q < 64 := by
  have hl : tw g q < 64 := by
    apply Nat.lt_of_not_le
    intro hle
    apply h0
    refine wn_zero 64 _ (fun j hj => ?_)
    exact fs_before 64 (fun j => g (64 * q + j)) j (by unfold tw at hle; omega)
  refine ⟨fs_is 256 g _ (by omega) ?_ ?_, hl⟩
  · exact fs_at 64 (fun j => g (64 * q + j)) hl
  · intro i hi
    by_cases e : i < 64 * q
    · exact h i e
    · have := fs_before 64 (fun j => g (64 * q + j)) (i - 64 * q) (by unfold tw at hi; omega)
      rw [show 64 * q + (i - 64 * q) = i by omega] at this
      exact this
def nx (f : Nat → Bool) (a : Int) : Nat := fs 256 (lessF f (upF a))
def nI (n : Nat) : Int := if n < 256 then (n : Int) else 0
theorem tup_int {a b : Int} {x y : Bool} (h : a = b) (k : x = y) : Ending.returned (.tuple #[.int .i64 a, .bool x]) = .returned (.tuple #[.int .i64 b, .bool y]) := by rw [h, k]
set_option maxRecDepth 100000 in
set_option maxHeartbeats 2000000 in
theorem next_any (f : Nat → Bool) (a : Int) (ha : a ≤ 9223372036854775807) (w : World) (hT : Tab w) : Calls Tryd.prog 59 #[SV f, .int .i64 a] w fun e w' => e = .returned (.tuple #[.int .i64 (nI (nx f a)), .bool (decide (nx f a < 256))]) ∧ Kp w w' := by
  obtain ⟨w0, hw0⟩ : ∃ w0, w0 = w.alloc (.cells (w4 (wd f)) 67) := ⟨_, rfl⟩
  have a1 : A4 w0 w.heap.size (wd f) := by rw [hw0]; exact A4.new w _ _
  have k0 : Kp w w0 := by rw [hw0]; exact (Kp.refl w).alloc _
  have HW : Hid (w0 = w.alloc (.cells (w4 (wd f)) 67)) := hw0
  clear hw0
  have hN := upto_any a ha w0.drew
  have hO := less_any f (upF a)
  unfold nx
  obtain ⟨g, hg⟩ : ∃ g, g = lessF f (upF a) := ⟨_, rfl⟩
  rw [← hg] at hO ⊢
  clear hg
  unfold SV at hN hO ⊢
  go_enter Tryd.func59, Tryd.ntmps59
  go_wp2_with fail
  rw [show w.alloc (.cells #[.int .u64 ((wd f 0 : Nat) : Int), .int .u64 ((wd f 1 : Nat) : Int), .int .u64 ((wd f 2 : Nat) : Int), .int .u64 ((wd f 3 : Nat) : Int)] 67) = w0 from HW.out.symm]
  clear HW
  obtain ⟨c0, c1, c2, c3⟩ := a1.cells
  clear a1
  go_region_held3 (fun W => W.cell? ⟨w.heap.size, 0, none⟩ = some (.int .u64 (wd f 0 : Nat)) ∧ W.cell? ⟨w.heap.size, 1, none⟩ = some (.int .u64 (wd f 1 : Nat)) ∧ W.cell? ⟨w.heap.size, 2, none⟩ = some (.int .u64 (wd f 2 : Nat)) ∧ W.cell? ⟨w.heap.size, 3, none⟩ = some (.int .u64 (wd f 3 : Nat)))
    (first | go_keep | exact ⟨c0, c1, c2, c3⟩ | exact ⟨ka.held c0, ka.held c1, ka.held c2, ka.held c3⟩ | exact ⟨(ka.trans kb).held c0, (ka.trans kb).held c1, (ka.trans kb).held c2, (ka.trans kb).held c3⟩)
    (first | (go_at_call 75; refine hN.mono ?_; rintro e wa ⟨rfl, ka⟩) | (go_at_call 74; refine (hO _).mono ?_; rintro e w1 ⟨rfl, kb⟩))
  rename_i hHeld
  have k1 : Kp w0 w1 := ((Kp.refl w0).drew.trans ka).trans kb
  have T1 : Tab w1 := (hT.kp k0).kp k1
  clear hHeld ka kb hN hO c0 c1 c2 c3
  go_wp2
  go_loopw [12] (fun i wr => ∃ k : Nat, k ≤ 4 ∧ i = .int .i64 k ∧ (∀ j, j < 64 * k → g j = false) ∧ wr = w1) (fun i _ => 4 - (intOf i).toNat)
  case atStart => exact ⟨0, by omega, rfl, fun j hj => absurd hj (by omega), rfl⟩
  case round =>
    obtain ⟨k, hk, rfl, hG, rfl⟩ := hrel
    by_cases hlt : k < 4
    · have hq : k = 0 ∨ k = 1 ∨ k = 2 ∨ k = 3 := by omega
      rcases hq with rfl | rfl | rfl | rfl
      · obtain ⟨x, hx⟩ : ∃ x : Int, x = (wd g 0 : Nat) := ⟨_, rfl⟩
        have hI : ∀ w, (Instr.index 67 (.agg #[.int .u64 (wd g 0 : Nat), .int .u64 (wd g 1 : Nat), .int .u64 (wd g 2 : Nat), .int .u64 (wd g 3 : Nat)]) (.int .i64 0)).run Tryd.prog w = .ok (.int .u64 x) w := by rw [hx]; exact idx4 (wd g) 0 (by omega)
        by_cases h0 : x = 0
        · have HG : Hid (∀ j, j < 64 * (0 + 1) → g j = false) := word_none hG (by omega)
          clear hG hx
          go_wp2
          go_roundw
          case rel => exact ⟨0 + 1, by omega, by go_num, HG.out, trivial⟩
          case measure => simp [intOf]
        · have hN := tz_wd g 0 wr T1
          rw [← hx] at hN
          obtain ⟨HG1, hl⟩ := word_first (q := 0) hG (by omega) (by omega)
          have HG : Hid (fs 256 g = 64 * 0 + tw g 0) := HG1
          clear hG hx HG1
          go_wp2_with fail
          refine hN.mono ?_; rintro e w' ⟨rfl, rfl⟩
          go_wp2
          go_ret2
          exact ⟨by rw [HG.out]; exact tup_int (by unfold nI; rw [if_pos (by omega)]; omega) (by simp; omega), k0.trans k1⟩
      · obtain ⟨x, hx⟩ : ∃ x : Int, x = (wd g 1 : Nat) := ⟨_, rfl⟩
        have hI : ∀ w, (Instr.index 67 (.agg #[.int .u64 (wd g 0 : Nat), .int .u64 (wd g 1 : Nat), .int .u64 (wd g 2 : Nat), .int .u64 (wd g 3 : Nat)]) (.int .i64 1)).run Tryd.prog w = .ok (.int .u64 x) w := by rw [hx]; exact idx4 (wd g) 1 (by omega)
        by_cases h0 : x = 0
        · have HG : Hid (∀ j, j < 64 * (1 + 1) → g j = false) := word_none hG (by omega)
          clear hG hx
          go_wp2
          go_roundw
          case rel => exact ⟨1 + 1, by omega, by go_num, HG.out, trivial⟩
          case measure => simp [intOf]
        · have hN := tz_wd g 1 wr T1
          rw [← hx] at hN
          obtain ⟨HG1, hl⟩ := word_first (q := 1) hG (by omega) (by omega)
          have HG : Hid (fs 256 g = 64 * 1 + tw g 1) := HG1
          clear hG hx HG1
          go_wp2_with fail
          refine hN.mono ?_; rintro e w' ⟨rfl, rfl⟩
          go_wp2
          go_ret2
          exact ⟨by rw [HG.out]; exact tup_int (by unfold nI; rw [if_pos (by omega)]; omega) (by simp; omega), k0.trans k1⟩
      · obtain ⟨x, hx⟩ : ∃ x : Int, x = (wd g 2 : Nat) := ⟨_, rfl⟩
        have hI : ∀ w, (Instr.index 67 (.agg #[.int .u64 (wd g 0 : Nat), .int .u64 (wd g 1 : Nat), .int .u64 (wd g 2 : Nat), .int .u64 (wd g 3 : Nat)]) (.int .i64 2)).run Tryd.prog w = .ok (.int .u64 x) w := by rw [hx]; exact idx4 (wd g) 2 (by omega)
        by_cases h0 : x = 0
        · have HG : Hid (∀ j, j < 64 * (2 + 1) → g j = false) := word_none hG (by omega)
          clear hG hx
          go_wp2
          go_roundw
          case rel => exact ⟨2 + 1, by omega, by go_num, HG.out, trivial⟩
          case measure => simp [intOf]
        · have hN := tz_wd g 2 wr T1
          rw [← hx] at hN
          obtain ⟨HG1, hl⟩ := word_first (q := 2) hG (by omega) (by omega)
          have HG : Hid (fs 256 g = 64 * 2 + tw g 2) := HG1
          clear hG hx HG1
          go_wp2_with fail
          refine hN.mono ?_; rintro e w' ⟨rfl, rfl⟩
          go_wp2
          go_ret2
          exact ⟨by rw [HG.out]; exact tup_int (by unfold nI; rw [if_pos (by omega)]; omega) (by simp; omega), k0.trans k1⟩
      · obtain ⟨x, hx⟩ : ∃ x : Int, x = (wd g 3 : Nat) := ⟨_, rfl⟩
        have hI : ∀ w, (Instr.index 67 (.agg #[.int .u64 (wd g 0 : Nat), .int .u64 (wd g 1 : Nat), .int .u64 (wd g 2 : Nat), .int .u64 (wd g 3 : Nat)]) (.int .i64 3)).run Tryd.prog w = .ok (.int .u64 x) w := by rw [hx]; exact idx4 (wd g) 3 (by omega)
        by_cases h0 : x = 0
        · have HG : Hid (∀ j, j < 64 * (3 + 1) → g j = false) := word_none hG (by omega)
          clear hG hx
          go_wp2
          go_roundw
          case rel => exact ⟨3 + 1, by omega, by go_num, HG.out, trivial⟩
          case measure => simp [intOf]
        · have hN := tz_wd g 3 wr T1
          rw [← hx] at hN
          obtain ⟨HG1, hl⟩ := word_first (q := 3) hG (by omega) (by omega)
          have HG : Hid (fs 256 g = 64 * 3 + tw g 3) := HG1
          clear hG hx HG1
          go_wp2_with fail
          refine hN.mono ?_; rintro e w' ⟨rfl, rfl⟩
          go_wp2
          go_ret2
          exact ⟨by rw [HG.out]; exact tup_int (by unfold nI; rw [if_pos (by omega)]; omega) (by simp; omega), k0.trans k1⟩
    · obtain rfl : k = 4 := by omega
      have HG : Hid (fs 256 g = 256) := fs_none 256 g hG
      clear hG
      go_wp2
      go_ret2
      exact ⟨by rw [HG.out]; exact tup_int rfl rfl, k0.trans k1⟩

end Go.Proofs.YtncdidklgpmefaaDoor
