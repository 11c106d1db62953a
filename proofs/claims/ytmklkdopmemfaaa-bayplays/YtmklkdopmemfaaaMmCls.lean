/-
  A region that draws its order, in the class of the worlds that have a property; what a nil member answers. No condition.
-/
import Derived.Test.YtmklkdopmemfaaaMmArgs
import Derived.Deep.Quiet
import Derived.BigQuiet
namespace Go.Proofs.Ytmklkdopmemfaaa
open Go.RowKit Plain
set_option linter.unusedVariables false

open Classical in
noncomputable def prw (R : World → Prop) (w : World) (p : List World) : World := if R (p.headD w) then p.headD w else w
theorem prw_ok {R : World → Prop} {w : World} (h : R w) (p : List World) : R (prw R w p) := by
  unfold prw
  split
  · assumption
  · exact h
theorem prw_of {R : World → Prop} {w w' : World} (h : R w') : ∃ p, w' = prw R w p := ⟨[w'], by
  unfold prw
  rw [if_pos]
  · rfl
  · exact h⟩
theorem wp_region_pr {P : Program} {id : Nat} {Q : Exit → Act → World → Prop} {a : Act} {w : World} {l : List Oper} (R : World → Prop) (hR : R w.drew) (hm : P.follows .mixedOrders = true) (hB : Region.lexB .any l.toArray = true)
    (h : wpQuiet P l.toArray (fun w' => ∃ p, w' = prw R w.drew p) (fun a' => ∀ w', (∃ p, w' = prw R w.drew p) → Q .normal a' w') l a) : (Code.region id l.toArray true).wp P Q a w :=
  wp_region_quiet (C := fun w' => ∃ p, w' = prw R w.drew p) hm hB (prw_of hR) (by simpa using h)
/-- a contract, met in such a world. -/
theorem pr_call {P : Program} {f : FuncId} {args : Array Value} {R : World → Prop} {w : World} {p : List World} {v : Value}
    (h : Calls P f args (prw R w p) fun e w' => e = .returned v ∧ R w') : Calls P f args (prw R w p) fun e w'' => e = .returned v ∧ ∃ p, w'' = prw R w p :=
  h.mono fun _ _ ⟨he, k⟩ => ⟨he, prw_of k⟩

/-! ### nil -/
theorem nil_read (k : Int) (w : World) : Calls Try.prog 13 #[.pointer none, .int .i64 k] w fun e w' => e = .returned (.tuple #[.string ByteArray.empty, .int .i64 1]) ∧ w' = w := by
  go_enter_defers Try.func13, Try.ntmps13
  go_wp2
  exact ⟨_, results_tmp2 rfl _ _ _, rfl, rfl⟩
theorem nil_write (k : Int) (s : ByteArray) (w : World) : Calls Try.prog 46 #[.pointer none, .int .i64 k, .string s] w fun e w' => e = .returned (.int .i64 1) ∧ w' = w := by
  go_enter_defers Try.func46, Try.ntmps46
  go_wp2
  exact ⟨_, results_tmp rfl _ _ _, rfl, rfl⟩
theorem nil_flush (w : World) : Calls Try.prog 47 #[.pointer none] w fun e w' => e = .returned (.int .i64 1) ∧ w' = w := by
  go_enter_defers Try.func47, Try.ntmps47
  go_wp2
  exact ⟨_, results_tmp rfl _ _ _, rfl, rfl⟩
theorem nil_waiting (w : World) : Calls Try.prog 24 #[.pointer none] w fun e w' => e = .returned (.slice none 0 0) ∧ w' = w := by
  go_enter_defers Try.func24, Try.ntmps24
  go_wp2
  exact ⟨_, results_tmp rfl _ _ _, rfl, rfl⟩
theorem nil_fail (w : World) : Calls Try.prog 34 #[.pointer none] w fun e w' => e = .returned (.tuple #[]) ∧ w' = w := by
  go_enter_defers Try.func34, Try.ntmps34
  go_wp2
  exact ⟨_, results_none rfl _ _ _, rfl, rfl⟩
theorem nil_dead (w : World) : Calls Try.prog 52 #[.pointer none] w fun e w' => e = .returned (.bool false) ∧ w' = w := by
  go_enter_defers Try.func52, Try.ntmps52
  go_wp2
  exact ⟨_, results_tmp rfl _ _ _, rfl, rfl⟩
theorem nil_replace (w : World) : Calls Try.prog 36 #[.pointer none] w fun e w' => e = .returned (.tuple #[]) ∧ w' = w := by
  go_enter_defers Try.func36, Try.ntmps36
  go_wp2
  exact ⟨_, results_none rfl _ _ _, rfl, rfl⟩
theorem nil_crash (v : Value) (hv : ∃ a n c, v = .slice a n c) (w : World) : Calls Try.prog 50 #[.pointer none, v] w fun e w' => e = .returned (.tuple #[]) ∧ Kp w w' := by
  obtain ⟨a, n, c, rfl⟩ := hv
  go_enter_defers Try.func50, Try.ntmps50
  go_wp2
  exact ⟨_, results_none rfl _ _ _, rfl, (Kp.refl w).alloc _⟩

end Go.Proofs.Ytmklkdopmemfaaa
