/-
  Sets of keys in maps of the call's own (SetM): made, asked, written, counted; keys that are ints or pairs of ints. Conditions: that the keys are ints of 64 bits.
-/
import Derived.Test.YtbagjfmhaclaeaaGmArgs
import Derived.Maps.OwnSet
import Derived.WideKeyPair
namespace Go.Proofs.Ytbagjfmhaclaeaa
open Go.RowKit Plain Go.Maps Go.WideMaps
set_option linter.unusedVariables false

theorem zeroB (w : World) : (zeroValue 4).run Try.prog w = .ok (.bool false) w := by kernel_rfl
theorem elem_bool {v : Value} {z : DataW Unit × List MemPlace} (h : plainElem Try.prog 4 v = some z) : ∃ x, v = .bool x ∧ z = (.lit (.bool x), []) := by
  unfold plainElem at h
  rw [Try.underlying4] at h
  cases v <;> simp at h
  exact ⟨_, rfl, h.symm⟩
/-- block b is a map of n keys; no key that isn't of S is there. -/
def SetM (w : World) (k : TypeId) (b n : Nat) (S : Value → Prop) : Prop :=
  ∃ D : DataW Unit, w.ownsMap Try.prog k (plainElem Try.prog 4) b n D ∧ Maps.size D = n ∧ ∀ key kl, keyOf Try.prog k key = some kl → ¬ S key → Maps.has D kl = false
theorem SetM.made (w : World) (k : TypeId) : SetM (w.alloc (.map #[] 0)) k w.heap.size 0 (fun _ => False) :=
  ⟨.map [], World.ownsMap_made w _ _ _, rfl, fun _ _ _ _ => rfl⟩
theorem SetM.kept {w w' : World} {k : TypeId} {b n : Nat} {S : Value → Prop} (h : SetM w k b n S) (kp : Kp w w') : SetM w' k b n S := by
  obtain ⟨D, h1, h2, h3⟩ := h
  have hlt := h1.lt
  obtain ⟨es, clock, hb, F⟩ := h1
  exact ⟨D, ⟨es, clock, (kp.block b hlt).trans hb, F⟩, h2, h3⟩
theorem SetM.sub {w : World} {k : TypeId} {b n : Nat} {S T : Value → Prop} (h : SetM w k b n S) (hs : ∀ v, S v → T v) : SetM w k b n T := by
  obtain ⟨D, h1, h2, h3⟩ := h
  exact ⟨D, h1, h2, fun key kl hk hn => h3 key kl hk (fun hh => hn (hs key hh))⟩
theorem SetM.grown {w w' : World} {k : TypeId} {b c n : Nat} {S : Value → Prop} (h : SetM w k b n S) (hg : w.grownBy w' (some c)) (hne : b ≠ c) : SetM w' k b n S := by
  obtain ⟨D, h1, h2, h3⟩ := h
  exact ⟨D, h1.kept hg (by simpa using hne), h2, h3⟩
theorem SetM.lt {w : World} {k : TypeId} {b n : Nat} {S : Value → Prop} (h : SetM w k b n S) : b < w.heap.size := by
  obtain ⟨D, h1, _⟩ := h
  exact h1.lt
/-- asked for a key that isn't there. -/
theorem SetM.look {w : World} {k t : TypeId} {b n : Nat} {S : Value → Prop} (h : SetM w k b n S) (K : Keyed Try.prog k) (ht : Try.prog.underlying t = some (.map k 4)) {key : Value} {kl : Lit} (hkey : keyOf Try.prog k key = some kl) (hS : ¬ S key) :
    (Instr.lookup t (.map (some b)) key false).run Try.prog w = .ok (.bool false) w := by
  obtain ⟨D, h1, h2, h3⟩ := h
  obtain ⟨v, ps, hrun, hv⟩ := h1.lookup K ht (zeroB w) (plainElem_bool Try.underlying4 false) hkey
  rw [Maps.atKey_of_not_has (h3 key kl hkey hS)] at hv
  obtain ⟨x, rfl, hx⟩ := elem_bool hv
  simp only [Prod.mk.injEq, DataW.lit.injEq, Lit.bool.injEq] at hx
  obtain rfl : x = false := hx.1.symm
  exact hrun
/-- one more key. -/
theorem SetM.put {w : World} {k t : TypeId} {b n : Nat} {S : Value → Prop} (h : SetM w k b n S) (K : Keyed Try.prog k) (ht : Try.prog.underlying t = some (.map k 4)) {key : Value} {kl : Lit} (hkey : keyOf Try.prog k key = some kl) (hS : ¬ S key) (hn : n < 1000000) :
    ∃ w', (Instr.mapUpdate t (.map (some b)) key (.bool true)).run Try.prog w = .ok () w' ∧ SetM w' k b (n + 1) (fun v => S v ∨ v = key) ∧ w.grownBy w' (some b) := by
  obtain ⟨D, h1, h2, h3⟩ := h
  obtain ⟨w', hrun, ho, hg⟩ := h1.update K ht (by unfold maxLen; omega) hkey (plainElem_bool Try.underlying4 true)
  refine ⟨w', hrun, ⟨_, ho, ?_, fun key' kl' hk' hn' => ?_⟩, hg⟩
  · rw [Maps.size_put (h1.tidy K), h3 key kl hkey hS, h2]; rfl
  · have hne : kl' ≠ kl := fun e => hn' (.inr (K.inj hk' (by rw [e]; exact hkey)))
    rw [Maps.has_put_other hne]
    exact h3 key' kl' hk' (fun hh => hn' (.inl hh))
theorem SetM.len {w : World} {k t : TypeId} {b n : Nat} {S : Value → Prop} (h : SetM w k b n S) (ht : Try.prog.underlying t = some (.map k 4)) (ty : TypeId) : (Builtin.len_ #[t] ty #[.map (some b)]).run Try.prog w = .ok (.int .i64 n) w := by
  obtain ⟨D, h1, h2, h3⟩ := h
  rw [h1.len ht ty, h2]
theorem int_key : Keyed Try.prog 3 := int_keyed Try.underlying3
theorem int_lit {a : Int} (h1 : -9223372036854775808 ≤ a) (h2 : a ≤ 9223372036854775807) : keyOf Try.prog 3 (.int .i64 a) = some (.int .i64 a) := keyOf_int_mk Try.underlying3 (WalkArith.wf_i64 (by omega))
theorem pair_arr : ArrKey Try.prog 31 3 2 := ⟨by kernel_rfl, by kernel_rfl, by kernel_rfl, by kernel_rfl⟩
theorem pair_key : Keyed Try.prog 31 := Keyed.of_law pair_arr.law
theorem types_size : ∃ m, Try.prog.types.size = m + 1 := ⟨Try.prog.types.size - 1, by
  have h : Try.prog.types.size ≠ 0 := by
    have : (Try.prog.types.size == 0) = false := by kernel_rfl
    exact beq_eq_false_iff_ne.1 this
  omega⟩
theorem pair_lit {a b : Int} (h1 : -9223372036854775808 ≤ a) (h2 : a ≤ 9223372036854775807) (h3 : -9223372036854775808 ≤ b) (h4 : b ≤ 9223372036854775807) : ∃ kl, keyOf Try.prog 31 (.agg #[.int .i64 a, .int .i64 b]) = some kl := ⟨_, keyOf_pair pair_arr Try.underlying3 types_size (WalkArith.wf_i64 (by omega)) (WalkArith.wf_i64 (by omega))⟩

end Go.Proofs.Ytbagjfmhaclaeaa
