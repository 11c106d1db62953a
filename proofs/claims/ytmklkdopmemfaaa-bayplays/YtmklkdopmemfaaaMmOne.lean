/-
  Contracts of a member's calls: the lock's, the counts', reach, Size, Dead, Fail, Counts. Conditions: that the member lies in memory, its lock free.
-/
import Derived.Test.YtmklkdopmemfaaaMmMem
import Derived.Test.YtmklkdopmemfaaaMkTail
import Derived.Test.YtmklkdopmemfaaaRows
import Derived.Deep.RegionHeld3
import Derived.Defers
import Derived.WalkKit
namespace Go.Proofs.Ytmklkdopmemfaaa
open Go.RowKit Plain Go.RwLone
set_option linter.unusedVariables false

theorem hid {p : Prop} (h : p) : Hid p := h
/-- behind a call: the member, and what was turned. -/
def Md (w w' : World) (b bn bl : Nat) (rv : Value) (S : MS) : Prop := ∃ rv', MemIn w' b bn bl rv' S 0 0 ∧ Sp (blk b bn bl rv) w w' ∧ Nw w (blk b bn bl rv) (blk b bn bl rv')
theorem b_mem (b bn bl : Nat) (rv : Value) : b ∈ blk b bn bl rv := by simp [blk]
theorem bn_mem (b bn bl : Nat) (rv : Value) : bn ∈ blk b bn bl rv := by simp [blk]
theorem bl_mem (b bn bl : Nat) (rv : Value) : bl ∈ blk b bn bl rv := by simp [blk]
theorem Sp.b {w w' : World} {b bn bl : Nat} {rv : Value} (h : Sp [b] w w') : Sp (blk b bn bl rv) w w' := h.mono (fun t ht => by simp at ht; subst ht; exact b_mem _ _ _ _)
theorem Sp.bn {w w' : World} {b bn bl : Nat} {rv : Value} (h : Sp [bn] w w') : Sp (blk b bn bl rv) w w' := h.mono (fun t ht => by simp at ht; subst ht; exact bn_mem _ _ _ _)
theorem Sp.bl {w w' : World} {b bn bl : Nat} {rv : Value} (h : Sp [bl] w w') : Sp (blk b bn bl rv) w w' := h.mono (fun t ht => by simp at ht; subst ht; exact bl_mem _ _ _ _)
theorem Sp.rw {w w' : World} {b bn bl : Nat} {rv : Value} (h : Sp rv.ownBlock.toList w w') : Sp (blk b bn bl rv) w w' := h.mono (fun t ht => by simp [blk]; exact .inr (.inr (.inr (by simpa using ht))))
theorem Md.same {w w' : World} {b bn bl : Nat} {rv : Value} {S : MS} (h : MemIn w' b bn bl rv S 0 0) (k : Sp (blk b bn bl rv) w w') : Md w w' b bn bl rv S := ⟨rv, h, k, Nw.refl _ _⟩
theorem Nw.none (w : World) (b bn bl : Nat) (rv : Value) : Nw w (blk b bn bl rv) (blk b bn bl (.slice none 0 0)) := fun t ht => .inl (by
  simp [blk, Value.ownBlock] at ht
  rcases ht with rfl | rfl | rfl
  · exact b_mem _ _ _ _
  · exact bn_mem _ _ _ _
  · exact bl_mem _ _ _ _)

/-! ### the lock -/
theorem lock_any {w : World} {b bn bl : Nat} {rv : Value} {S : MS} (h : MemIn w b bn bl rv S 0 0) : Calls Try.prog 59 #[.pointer (some ⟨b, 4, none⟩)] w fun e w' => e = .returned (.tuple #[]) ∧ MemIn w' b bn bl rv S 1 (-1073741824) ∧ Sp [b] w w' := by
  refine (wlock_free rwWLib b 4 _ _ w h.l4 h.l6 h.l7 h.l8 (h.z 4) (h.z 8)).mono ?_
  rintro e w' ⟨rfl, rfl⟩
  exact ⟨rfl, (h.lock 1).readers _, ((Sp.refl [b] w).set b 4 (by simp) _).set b 8 (by simp) _⟩
theorem unlock_any {w : World} {b bn bl : Nat} {rv : Value} {S : MS} (h : MemIn w b bn bl rv S 1 (-1073741824)) (u : FrameMode) : CallsD Try.prog 60 #[.pointer (some ⟨b, 4, none⟩)] u w fun e u' w' => u' = u ∧ (e = .returned (.tuple #[]) ∧ MemIn w' b bn bl rv S 0 0 ∧ Sp [b] w w') := by
  refine (wunlock_deferred rwWLib b 4 _ _ u w h.l4 h.l6 h.l7 h.l8 (h.z 4) (h.z 8)).mono ?_
  rintro e u' w' ⟨rfl, rfl, rfl⟩
  exact ⟨rfl, rfl, (h.readers 0).lock _, ((Sp.refl [b] w).set b 8 (by simp) _).set b 4 (by simp) _⟩
theorem up1 : wrap32 (0 + 1) = 1 := by simp only [wrap32]; omega
theorem dn1 : wrap32 (1 + -1) = 0 := by simp only [wrap32]; omega
theorem rlock_any {w : World} {b bn bl : Nat} {rv : Value} {S : MS} (h : MemIn w b bn bl rv S 0 0) : Calls Try.prog 40 #[.pointer (some ⟨b, 4, none⟩)] w fun e w' => e = .returned (.tuple #[]) ∧ MemIn w' b bn bl rv S 0 1 ∧ Sp [b] w w' := by
  refine (rlock_open rwRLib b 4 0 _ _ w h.l4 h.l7 h.l8 (h.z 8) (by rw [up1]; decide)).mono ?_
  rintro e w' ⟨rfl, rfl⟩
  rw [up1]
  exact ⟨rfl, h.readers _, (Sp.refl [b] w).set b 8 (by simp) _⟩
theorem runlock_any {w : World} {b bn bl : Nat} {rv : Value} {S : MS} (h : MemIn w b bn bl rv S 0 1) (u : FrameMode) : CallsD Try.prog 41 #[.pointer (some ⟨b, 4, none⟩)] u w fun e u' w' => u' = u ∧ (e = .returned (.tuple #[]) ∧ MemIn w' b bn bl rv S 0 0 ∧ Sp [b] w w') := by
  refine (runlock_deferred rwRLib b 4 1 _ _ u w h.l4 h.l6 h.l8 (h.z 8) (by rw [dn1]; decide)).mono ?_
  rintro e u' w' ⟨rfl, rfl, rfl⟩
  rw [dn1]
  exact ⟨rfl, rfl, h.readers _, (Sp.refl [b] w).set b 8 (by simp) _⟩

/-! ### the counts -/
theorem load_count (a : Addr) (d : Int) (w : World) (hc : w.cell? a = some (.int .i64 d)) : Calls Try.prog 49 #[.pointer (some a)] w fun e w' => e = .returned (.int .i64 d) ∧ w' = w := by
  have hl := run_call_load (P := Try.prog) Try.func76 (by kernel_rfl) (by kernel_rfl) (by kernel_rfl) .i64 (by kernel_rfl) hc
  go_enter Try.func49, Try.ntmps49
  go_wp2
  go_ret
  exact ⟨rfl, rfl⟩
theorem add_count (a : Addr) (d : Int) (w : World) (hc : w.cell? a = some (.int .i64 d)) (hz : w.frozen? a = false) : Calls Try.prog 43 #[.pointer (some a), .int .i64 1] w fun e w' => e = .returned (.int .i64 (wrap64 (d + 1))) ∧ w' = w.setCell a (.int .i64 (wrap64 (d + 1))) := by
  have hadd := run_call_add (P := Try.prog) Try.func70 (by kernel_rfl) (by kernel_rfl) (by kernel_rfl) .i64 (by kernel_rfl) (y := 1) (s := wrap64 (d + 1)) hc hz (by simp [go_sem, wrap64, IntKind.wrap_i64])
  go_enter Try.func43, Try.ntmps43
  go_wp2
  go_ret
  exact ⟨rfl, rfl⟩
theorem count_any {w : World} {b bn bl : Nat} {rv : Value} {S : MS} {x y : Int} (h : MemIn w b bn bl rv S x y) (i : Nat) (hi : i < 4) : Calls Try.prog 43 #[.pointer (some ⟨b, i, none⟩), .int .i64 1] w fun e w' => (∃ v, e = .returned (.int .i64 v)) ∧ MemIn w' b bn bl rv ⟨S.now, S.las, S.row, S.dead, up S.c i⟩ x y ∧ Sp [b] w w' := by
  refine (add_count ⟨b, i, none⟩ _ w (h.cn i hi) (h.z i)).mono ?_
  rintro e w' ⟨rfl, rfl⟩
  exact ⟨⟨_, rfl⟩, h.count i hi, (Sp.refl [b] w).set b i (by simp) _⟩

/-! ### reach, Size -/
theorem reach_any {w : World} {b bn bl : Nat} {rv : Value} {S : MS} {x y : Int} (h : MemIn w b bn bl rv S x y) (k : Int) : Calls Try.prog 42 #[.pointer (some ⟨b, 0, none⟩), .int .i64 k] w fun e w' => e = .returned (.int .i64 (rcE S k)) ∧ Kp w w' := by
  have cN := h.cN
  have cD := h.cD
  have n2 := h.fine.n2
  obtain ⟨n, hn⟩ : ∃ n, n = S.las.length := ⟨_, rfl⟩
  rw [← hn] at cN n2
  unfold rcE
  rw [← hn]
  obtain ⟨d, hd⟩ : ∃ d, d = S.dead := ⟨_, rfl⟩
  rw [← hd] at cD ⊢
  clear hn hd h
  cases d with
  | true =>
    rw [if_pos rfl]
    go_enter Try.func42, Try.ntmps42
    go_wp2
    go_ret
    exact ⟨rfl, Kp.refl w⟩
  | false =>
    rw [if_neg (by simp)]
    by_cases h0 : 0 ≤ k
    · by_cases h1 : k < n
      · rw [if_pos ⟨h0, h1⟩]
        go_enter Try.func42, Try.ntmps42
        go_wp2
        go_ret
        exact ⟨rfl, Kp.refl w⟩
      · rw [if_neg (fun h => h1 h.2)]
        go_enter Try.func42, Try.ntmps42
        go_wp2
        go_ret
        exact ⟨rfl, Kp.refl w⟩
    · rw [if_neg (fun h => h0 h.1)]
      go_enter Try.func42, Try.ntmps42
      go_wp2
      go_ret
      exact ⟨rfl, Kp.refl w⟩

/-! ### Dead, Fail -/
theorem dead_any {w : World} {b bn bl : Nat} {rv : Value} {S : MS} (h : MemIn w b bn bl rv S 0 0) : Calls Try.prog 52 #[.pointer (some ⟨b, 0, none⟩)] w fun e w' => e = .returned (.bool S.dead) ∧ Md w w' b bn bl rv S := by
  go_enter_defers Try.func52, Try.ntmps52
  go_wp2_with fail
  refine (rlock_any h).mono ?_
  rintro e w1 ⟨rfl, h1, k1⟩
  have cD := h1.cD
  go_wp2_with fail
  refine leaves_cons (f := 41) (args := #[.pointer (some ⟨b, 4, none⟩)]) (by simp) (by simp [go_sem]) ?_
  refine (runlock_any h1 .returning).mono ?_
  rintro e u' w2 ⟨rfl, rfl, h2, k2⟩
  exact ⟨_, results_tmp rfl _ _ _, rfl, Md.same h2 (k1.trans k2).b⟩
theorem fail_any {w : World} {b bn bl : Nat} {rv : Value} {S : MS} (h : MemIn w b bn bl rv S 0 0) : Calls Try.prog 34 #[.pointer (some ⟨b, 0, none⟩)] w fun e w' => e = .returned (.tuple #[]) ∧ Md w w' b bn bl rv (fa S) := by
  go_enter_defers Try.func34, Try.ntmps34
  go_wp2_with fail
  refine (lock_any h).mono ?_
  rintro e w1 ⟨rfl, h1, k1⟩
  have cD := h1.cD
  have cR := h1.cR
  have z13 := h1.z 13
  have z12 := h1.z 12
  go_wp2_with fail
  have h3 := (h1.death true).row (Sp.refl _ _) (.slice none 0 0) [] (RowIn.nil _) (fun g hg => by cases hg) (fun p hp => by cases hp)
  refine leaves_cons (f := 60) (args := #[.pointer (some ⟨b, 4, none⟩)]) (by simp) (by simp [go_sem]) ?_
  refine (unlock_any h3 .returning).mono ?_
  rintro e u' w2 ⟨rfl, rfl, h2, k2⟩
  refine ⟨_, results_none rfl _ _ _, rfl, _, h2, ?_, Nw.none _ _ _ _ _⟩
  exact (((k1.set b 13 (by simp) _).set b 12 (by simp) _).trans k2).b

end Go.Proofs.Ytmklkdopmemfaaa
