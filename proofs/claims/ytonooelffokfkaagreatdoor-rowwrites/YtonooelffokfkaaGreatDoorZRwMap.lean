/-
  A map of the call's own whose keys are small numbers: asked, written, counted; how many members are dead. No condition.
-/
import Derived.Test.YtonooelffokfkaaGreatDoorZSet
import Derived.Maps.OwnSet
import Derived.WideKeyPair
namespace Go.Proofs.YtonooelffokfkaaGreatDoor
open Go.RowKit Plain Go.Maps Go.WideMaps
set_option linter.unusedVariables false

theorem int_key : Keyed Tryz.prog 3 := int_keyed Tryz.underlying3
theorem int_lit {a : Int} (h1 : -9223372036854775808 ≤ a) (h2 : a ≤ 9223372036854775807) : keyOf Tryz.prog 3 (.int .i64 a) = some (.int .i64 a) := keyOf_int_mk Tryz.underlying3 (WalkArith.wf_i64 (by omega))
/-- block b is a map of numbers, c of them: those that S says are there, and true. -/
def MpI (w : World) (b n c : Nat) (S : Nat → Bool) : Prop :=
  ∃ D : DataW Unit, w.ownsMap Tryz.prog 3 (plainElem Tryz.prog 4) b n D ∧ Maps.size D = c ∧ ∀ i : Nat, i < 1000 → Maps.has D (.int .i64 (i : Int)) = S i ∧ (S i = true → D.atKey (.int .i64 (i : Int)) (.lit (.bool false)) = .lit (.bool true))
theorem MpI.made (w : World) : MpI (w.alloc (.map #[] 0)) w.heap.size 0 0 (fun _ => false) :=
  ⟨.map [], World.ownsMap_made w _ _ _, rfl, fun _ _ => ⟨rfl, fun h => by cases h⟩⟩
theorem MpI.lt {w : World} {b n c : Nat} {S : Nat → Bool} (h : MpI w b n c S) : b < w.heap.size := by
  obtain ⟨D, h1, _⟩ := h
  exact h1.lt
theorem MpI.sp {w w' : World} {b n c : Nat} {S : Nat → Bool} {T : List Nat} (h : MpI w b n c S) (k : Sp T w w') (hb : b ∉ T) : MpI w' b n c S := by
  obtain ⟨D, h1, h2, h3⟩ := h
  have hlt := h1.lt
  obtain ⟨es, clock, hbk, F⟩ := h1
  exact ⟨D, ⟨es, clock, (k.block b hlt hb).trans hbk, F⟩, h2, h3⟩
theorem MpI.put {w : World} {b n c : Nat} {S : Nat → Bool} (h : MpI w b n c S) (i : Nat) (hi : i < 1000) (hn : n < 1000) :
    ∃ w', (Instr.mapUpdate 104 (.map (some b)) (.int .i64 (i : Int)) (.bool true)).run Tryz.prog w = .ok () w' ∧ MpI w' b (n + 1) (if S i = true then c else c + 1) (fun j => if j = i then true else S j) ∧ w.grownBy w' (some b) := by
  obtain ⟨D, h1, h2, h3⟩ := h
  have hkey := int_lit (a := (i : Int)) (by omega) (by omega)
  obtain ⟨w', hrun, ho, hg⟩ := h1.update int_key Tryz.underlying104 (by unfold maxLen; omega) hkey (plainElem_bool Tryz.underlying4 true)
  have hT := h1.tidy int_key
  refine ⟨w', hrun, ⟨_, ho, ?_, fun j hj => ?_⟩, hg⟩
  · rw [Maps.size_put hT, (h3 i hi).1, h2]
  · by_cases e : j = i
    · subst e
      show _ = (if j = j then true else S j) ∧ ((if j = j then true else S j) = true → _)
      rw [if_pos rfl]
      exact ⟨Maps.has_put_same (h1.isMap) (by trivial) _, fun _ => Maps.atKey_put_same (h1.isMap) (by trivial) _ _⟩
    · show _ = (if j = i then true else S j) ∧ ((if j = i then true else S j) = true → _)
      rw [if_neg e]
      have hne : (Lit.int .i64 (j : Int)) ≠ (Lit.int .i64 (i : Int)) := fun h => by
        injection h with _ h
        omega
      rw [Maps.has_put_other hne, Maps.atKey_put_other hne]
      exact h3 j hj
theorem MpI.len {w : World} {b n c : Nat} {S : Nat → Bool} (h : MpI w b n c S) (ty : TypeId) : (Builtin.len_ #[104] ty #[.map (some b)]).run Tryz.prog w = .ok (.int .i64 (c : Int)) w := by
  obtain ⟨D, h1, h2, h3⟩ := h
  rw [h1.len Tryz.underlying104 ty, h2]

end Go.Proofs.YtonooelffokfkaaGreatDoor
