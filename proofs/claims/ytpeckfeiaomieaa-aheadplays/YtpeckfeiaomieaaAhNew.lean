/-
  Contracts of Note as a whole, and of New. Conditions: that the object lies in memory, and is as planners come.
-/
import Derived.Test.YtpeckfeiaomieaaAhNote2
namespace Go.Proofs.Ytpeckfeiaomieaa
open Go.RowKit Plain
set_option linter.unusedVariables false

theorem note_any {w : World} {a : Nat} {S : AS} (h : At w a S) (hk : Ak S) (b : Int) : Calls Try.prog 11 #[.pointer (some ⟨a, 0, none⟩), .int .i64 b] w fun x w' => x = .returned (.tuple #[.agg #[.int .i64 (ntF S b), .int .i64 (ntT S b)], .bool (ntB S b)]) ∧ At w' a (ntS S b) ∧ Sp [a] w w' := by
  rcases way_lt S b with hw | hw | hw | hw
  · rw [(nt_zero (by omega)).1, (nt_zero (by omega)).2, (nt_at _ hw).1, (nt_at _ hw).2]
    exact note0 h hk b hw
  · rw [(nt_zero (by omega)).1, (nt_zero (by omega)).2, (nt_at _ hw).1, (nt_at _ hw).2]
    exact note1 h hk b hw
  · exact note23 h hk b (.inl hw)
  · exact note23 h hk b (.inr hw)

def szN (B R M : Int) : Nat → Int
  | 0 => B
  | 1 => R
  | _ => M
def moN : Nat → Int
  | 0 => 1099511627776
  | 1 => 32
  | _ => 64
def okN (B R M : Int) (k : Nat) : Prop := 1 ≤ szN B R M k ∧ szN B R M k ≤ moN k
def newOk (B R M : Int) : Prop := (1 ≤ B ∧ B ≤ 1099511627776) ∧ (1 ≤ R ∧ R ≤ 32) ∧ 1 ≤ M ∧ M ≤ 64
theorem newOk_iff (B R M : Int) : newOk B R M ↔ ∀ k, k < 3 → okN B R M k := by
  constructor
  · rintro ⟨h1, h2, h3⟩ k hk
    have : k = 0 ∨ k = 1 ∨ k = 2 := by omega
    rcases this with rfl | rfl | rfl
    · exact h1
    · exact h2
    · exact h3
  · intro h
    exact ⟨h 0 (by omega), h 1 (by omega), h 2 (by omega)⟩
theorem idxN (B R M : Int) (k : Nat) (hk : k < 3) (w : World) : (Instr.index 48 (.agg #[.int .i64 B, .int .i64 1099511627776, .int .i64 R, .int .i64 32, .int .i64 M, .int .i64 64]) (.int .i64 k)).run Try.prog w = .ok (.agg #[.int .i64 (szN B R M k), .int .i64 (moN k)]) w := by
  have : k = 0 ∨ k = 1 ∨ k = 2 := by omega
  have ut := Try.underlying48
  have a3 := Try.isAgg47
  have z3 := Try.sizeOf47
  rcases this with rfl | rfl | rfl <;> (unfold Instr.index szN moN; go_simp)


theorem newS_at (w : World) (B R M : Int) : At (w.alloc (.cells #[.int .i64 0, .int .i64 0, .int .i64 0, .int .i64 0, .int .i64 B, .int .i64 R, .int .i64 M] 52)) w.heap.size (newS B R M) := new_obj _ _ _
set_option maxRecDepth 100000 in
set_option maxHeartbeats 4000000 in
theorem new_ok (B R M : Int) (h : newOk B R M) (w : World) : Calls Try.prog 7 #[.int .i64 B, .int .i64 R, .int .i64 M] w fun x w' => ∃ a, x = .returned (.tuple #[.pointer (some ⟨a, 0, none⟩), .int .i64 0]) ∧ At w' a (newS B R M) ∧ Kp w w' ∧ w.heap.size ≤ a := by
  have hall := (newOk_iff B R M).1 h
  have HX := hid (idxN B R M)
  have HA := hid hall
  have u3 : Hid (∀ k, k = 0 ∨ k = 1 ∨ k = 2 ∨ ¬ k < 3) := fun k => by omega
  clear h hall
  go_enter Try.func7, Try.ntmps7
  go_wp2_with fail
  go_loopw [17] (fun i wr => ∃ k : Nat, i = .int .i64 k ∧ k ≤ 3 ∧ Hid (Kp w wr)) (fun i _ => 3 - (intOf i).toNat)
  case atStart => exact ⟨0, rfl, by omega, Kp.refl w⟩
  case round =>
    obtain ⟨k, rfl, hk, HQ⟩ := hrel
    rcases u3.out k with rfl | rfl | rfl | hk3
    · have hI : (Instr.index 48 (.agg #[.int .i64 B, .int .i64 1099511627776, .int .i64 R, .int .i64 32, .int .i64 M, .int .i64 64]) (.int .i64 0)).run Try.prog wr = .ok (.agg #[.int .i64 B, .int .i64 1099511627776]) wr := HX.out 0 (by omega) wr
      obtain ⟨o1, o2⟩ := HA.out 0 (by omega)
      simp only [szN, moN] at o1 o2
      have HQ2 := hid (HQ.out.alloc (.cells #[.int .i64 B, .int .i64 1099511627776] 47))
      clear HQ
      go_wp2
      go_roundw
      case rel => exact ⟨1, rfl, by omega, HQ2⟩
      case measure => simp [intOf]
    · have hI : (Instr.index 48 (.agg #[.int .i64 B, .int .i64 1099511627776, .int .i64 R, .int .i64 32, .int .i64 M, .int .i64 64]) (.int .i64 1)).run Try.prog wr = .ok (.agg #[.int .i64 R, .int .i64 32]) wr := HX.out 1 (by omega) wr
      obtain ⟨o1, o2⟩ := HA.out 1 (by omega)
      simp only [szN, moN] at o1 o2
      have HQ2 := hid (HQ.out.alloc (.cells #[.int .i64 R, .int .i64 32] 47))
      clear HQ
      go_wp2
      go_roundw
      case rel => exact ⟨2, rfl, by omega, HQ2⟩
      case measure => simp [intOf]
    · have hI : (Instr.index 48 (.agg #[.int .i64 B, .int .i64 1099511627776, .int .i64 R, .int .i64 32, .int .i64 M, .int .i64 64]) (.int .i64 2)).run Try.prog wr = .ok (.agg #[.int .i64 M, .int .i64 64]) wr := HX.out 2 (by omega) wr
      obtain ⟨o1, o2⟩ := HA.out 2 (by omega)
      simp only [szN, moN] at o1 o2
      have HQ2 := hid (HQ.out.alloc (.cells #[.int .i64 M, .int .i64 64] 47))
      clear HQ
      go_wp2
      go_roundw
      case rel => exact ⟨3, rfl, by omega, HQ2⟩
      case measure => simp [intOf]
    · obtain rfl : k = 3 := by omega
      clear HX HA
      have HN := hid (newS_at wr B R M)
      go_wp2
      go_ret2
      exact ⟨_, rfl, HN.out, HQ.out.alloc _, HQ.out.size⟩
set_option maxRecDepth 100000 in
set_option maxHeartbeats 4000000 in
theorem new_no (B R M : Int) (h : ¬ newOk B R M) (w : World) : Calls Try.prog 7 #[.int .i64 B, .int .i64 R, .int .i64 M] w fun x w' => x = .returned (.tuple #[.pointer none, .int .i64 2]) ∧ Kp w w' := by
  have HX := hid (idxN B R M)
  have HA : Hid (¬ ∀ k, k < 3 → okN B R M k) := fun hh => h ((newOk_iff B R M).2 hh)
  have u3 : Hid (∀ k, k = 0 ∨ k = 1 ∨ k = 2 ∨ ¬ k < 3) := fun k => by omega
  clear h
  go_enter Try.func7, Try.ntmps7
  go_wp2_with fail
  go_loopw [17] (fun i wr => ∃ k : Nat, i = .int .i64 k ∧ k ≤ 3 ∧ Hid (Kp w wr ∧ ∀ j, j < k → okN B R M j)) (fun i _ => 3 - (intOf i).toNat)
  case atStart => exact ⟨0, rfl, by omega, Kp.refl w, fun j hj => absurd hj (by omega)⟩
  case round =>
    obtain ⟨k, rfl, hk, HQ⟩ := hrel
    rcases u3.out k with rfl | rfl | rfl | hk3
    · have hI : (Instr.index 48 (.agg #[.int .i64 B, .int .i64 1099511627776, .int .i64 R, .int .i64 32, .int .i64 M, .int .i64 64]) (.int .i64 0)).run Try.prog wr = .ok (.agg #[.int .i64 B, .int .i64 1099511627776]) wr := HX.out 0 (by omega) wr
      by_cases hok : okN B R M 0
      · obtain ⟨o1, o2⟩ := hok
        have HQ2 : Hid (_ ∧ ∀ j, j < 1 → okN B R M j) := And.intro (HQ.out.1.alloc (.cells #[.int .i64 B, .int .i64 1099511627776] 47)) (fun j hj => by
          obtain rfl : j = 0 := by omega
          exact ⟨o1, o2⟩)
        simp only [szN, moN] at o1 o2
        clear HQ
        go_wp2
        go_roundw
        case rel => exact ⟨1, rfl, by omega, HQ2⟩
        case measure => simp [intOf]
      · unfold okN at hok
        simp only [szN, moN] at hok
        by_cases o1 : B < 1
        · clear hok
          go_wp2
          go_ret2
          exact ⟨rfl, HQ.out.1.alloc _⟩
        · have o2 : 1099511627776 < B := by omega
          clear hok
          go_wp2
          go_ret2
          exact ⟨rfl, HQ.out.1.alloc _⟩
    · have hI : (Instr.index 48 (.agg #[.int .i64 B, .int .i64 1099511627776, .int .i64 R, .int .i64 32, .int .i64 M, .int .i64 64]) (.int .i64 1)).run Try.prog wr = .ok (.agg #[.int .i64 R, .int .i64 32]) wr := HX.out 1 (by omega) wr
      by_cases hok : okN B R M 1
      · obtain ⟨o1, o2⟩ := hok
        have HQ2 : Hid (_ ∧ ∀ j, j < 2 → okN B R M j) := And.intro (HQ.out.1.alloc (.cells #[.int .i64 R, .int .i64 32] 47)) (fun j hj => by
          by_cases h : j = 1
          · subst h; exact ⟨o1, o2⟩
          · exact HQ.out.2 j (by omega))
        simp only [szN, moN] at o1 o2
        clear HQ
        go_wp2
        go_roundw
        case rel => exact ⟨2, rfl, by omega, HQ2⟩
        case measure => simp [intOf]
      · unfold okN at hok
        simp only [szN, moN] at hok
        by_cases o1 : R < 1
        · clear hok
          go_wp2
          go_ret2
          exact ⟨rfl, HQ.out.1.alloc _⟩
        · have o2 : 32 < R := by omega
          clear hok
          go_wp2
          go_ret2
          exact ⟨rfl, HQ.out.1.alloc _⟩
    · have hI : (Instr.index 48 (.agg #[.int .i64 B, .int .i64 1099511627776, .int .i64 R, .int .i64 32, .int .i64 M, .int .i64 64]) (.int .i64 2)).run Try.prog wr = .ok (.agg #[.int .i64 M, .int .i64 64]) wr := HX.out 2 (by omega) wr
      by_cases hok : okN B R M 2
      · obtain ⟨o1, o2⟩ := hok
        have HQ2 : Hid (_ ∧ ∀ j, j < 3 → okN B R M j) := And.intro (HQ.out.1.alloc (.cells #[.int .i64 M, .int .i64 64] 47)) (fun j hj => by
          by_cases h : j = 2
          · subst h; exact ⟨o1, o2⟩
          · exact HQ.out.2 j (by omega))
        simp only [szN, moN] at o1 o2
        clear HQ
        go_wp2
        go_roundw
        case rel => exact ⟨3, rfl, by omega, HQ2⟩
        case measure => simp [intOf]
      · unfold okN at hok
        simp only [szN, moN] at hok
        by_cases o1 : M < 1
        · clear hok
          go_wp2
          go_ret2
          exact ⟨rfl, HQ.out.1.alloc _⟩
        · have o2 : 64 < M := by omega
          clear hok
          go_wp2
          go_ret2
          exact ⟨rfl, HQ.out.1.alloc _⟩
    · obtain rfl : k = 3 := by omega
      exact absurd HQ.out.2 HA.out

end Go.Proofs.Ytpeckfeiaomieaa
