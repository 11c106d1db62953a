/-
  Maps of the call's own whose keys are numbers and whose values are truths, as a set. No condition.
-/
import Derived.Test.YtpeckfeiaomieaaAhNew
import Derived.Maps.OwnSet
import Derived.Maps.RangeWalk
import Derived.WideKeyPair
namespace Go.Proofs.Ytpeckfeiaomieaa
open Go.RowKit Plain Go.Maps Go.WideMaps
set_option linter.unusedVariables false

theorem grown_sp {w w' : World} {r : Option Nat} (g : w.grownBy w' r) : Sp r.toList w w' := by
  obtain ⟨g1, g2, g3, g4, g5⟩ := g
  exact ⟨g1, g2, g3, g4, fun k hk hn => g5 k hk (fun e => hn (by rw [← e]; simp))⟩
theorem int_key : Keyed Try.prog 3 := int_keyed Try.underlying3
theorem int_lit {a : Int} (h1 : -9223372036854775808 ≤ a) (h2 : a ≤ 9223372036854775807) : keyOf Try.prog 3 (.int .i64 a) = some (.int .i64 a) := keyOf_int_mk Try.underlying3 (WalkArith.wf_i64 (by omega))
def iOk (i : Int) : Prop := -9223372036854775808 ≤ i ∧ i ≤ 9223372036854775807
/-! ### truths -/
theorem zeroB (w : World) : (zeroValue 4).run Try.prog w = .ok (.bool false) w := by kernel_rfl
set_option maxRecDepth 100000 in
theorem elem_bool {v : Value} {z : DataW Unit × List MemPlace} (h : plainElem Try.prog 4 v = some z) : ∃ x, v = .bool x ∧ z = (.lit (.bool x), []) := by
  unfold plainElem at h
  rw [Try.underlying4] at h
  cases v <;> simp at h
  exact ⟨_, rfl, h.symm⟩
structure MpB (w : World) (b n c : Nat) (S : Int → Bool) (D : DataW Unit) : Prop where
  own : w.ownsMap Try.prog 3 (plainElem Try.prog 4) b n D
  sz : Maps.size D = c
  at_ : ∀ i, iOk i → Maps.has D (.int .i64 i) = S i ∧ (S i = true → D.atKey (.int .i64 i) (.lit (.bool false)) = .lit (.bool true))
theorem MpB.lt {w : World} {b n c : Nat} {S : Int → Bool} {D : DataW Unit} (h : MpB w b n c S D) : b < w.heap.size := h.own.lt
theorem MpB.blk {w w' : World} {b n c : Nat} {S : Int → Bool} {D : DataW Unit} (h : MpB w b n c S D) (k : w'.heap[b]? = w.heap[b]?) : MpB w' b n c S D := by
  obtain ⟨es, clock, hbk, F⟩ := h.own
  exact ⟨⟨es, clock, k.trans hbk, F⟩, h.sz, h.at_⟩
theorem MpB.made (w : World) : MpB (w.alloc (.map #[] 0)) w.heap.size 0 0 (fun _ => false) (.map []) := ⟨World.ownsMap_made w _ _ _, rfl, fun _ _ => ⟨rfl, fun h => by cases h⟩⟩
theorem MpB.look {w : World} {b n c : Nat} {S : Int → Bool} {D : DataW Unit} (h : MpB w b n c S D) {i : Int} (hi : iOk i) :
    (Instr.lookup 44 (.map (some b)) (.int .i64 i) false).run Try.prog w = .ok (.bool (S i)) w := by
  obtain ⟨v, ps, hrun, hv⟩ := h.own.lookup int_key Try.underlying44 (zeroB w) (plainElem_bool Try.underlying4 false) (int_lit hi.1 hi.2)
  obtain ⟨g1, g2⟩ := h.at_ i hi
  have e : D.atKey (.int .i64 i) (.lit (.bool false)) = .lit (.bool (S i)) := by
    cases hS : S i with
    | true => exact g2 hS
    | false => exact Maps.atKey_of_not_has (by rw [g1, hS]) _
  rw [e] at hv
  obtain ⟨x, rfl, hx⟩ := elem_bool hv
  simp only [Prod.mk.injEq, DataW.lit.injEq, Lit.bool.injEq] at hx
  rw [hrun, hx.1]
theorem MpB.len {w : World} {b n c : Nat} {S : Int → Bool} {D : DataW Unit} (h : MpB w b n c S D) (ty : TypeId) : (Builtin.len_ #[44] ty #[.map (some b)]).run Try.prog w = .ok (.int .i64 (c : Int)) w := by
  rw [h.own.len Try.underlying44 ty, h.sz]
theorem MpB.put {w : World} {b n c : Nat} {S : Int → Bool} {D : DataW Unit} (h : MpB w b n c S D) {i : Int} (hi : iOk i) (hn : n < 1000) :
    ∃ w' D', (Instr.mapUpdate 44 (.map (some b)) (.int .i64 i) (.bool true)).run Try.prog w = .ok () w' ∧ MpB w' b (n + 1) (if S i = true then c else c + 1) (fun j => if j = i then true else S j) D' ∧ Sp [b] w w' := by
  have hkey := int_lit hi.1 hi.2
  obtain ⟨w', hrun, ho, hg⟩ := h.own.update int_key Try.underlying44 (by unfold maxLen; omega) hkey (plainElem_bool Try.underlying4 true)
  have hT := h.own.tidy int_key
  refine ⟨w', _, hrun, ⟨ho, ?_, fun j hj => ?_⟩, (grown_sp hg)⟩
  · rw [Maps.size_put hT, (h.at_ i hi).1, h.sz]
  · by_cases e : j = i
    · subst e
      show _ = (if j = j then true else S j) ∧ ((if j = j then true else S j) = true → _)
      rw [if_pos rfl]
      exact ⟨Maps.has_put_same (h.own.isMap) (by trivial) _, fun _ => Maps.atKey_put_same (h.own.isMap) (by trivial) _ _⟩
    · show _ = (if j = i then true else S j) ∧ ((if j = i then true else S j) = true → _)
      rw [if_neg e]
      have hne : (Lit.int .i64 j) ≠ (Lit.int .i64 i) := fun h => by
        injection h with _ h
        exact e h
      rw [Maps.has_put_other hne, Maps.atKey_put_other hne]
      exact h.at_ j hj
theorem MpB.del {w : World} {b n c : Nat} {S : Int → Bool} {D : DataW Unit} (h : MpB w b n c S D) {i : Int} (hi : iOk i) (ty : TypeId) :
    ∃ w', (Builtin.delete_ #[44, 3] ty #[.map (some b), .int .i64 i]).run Try.prog w = .ok (.tuple #[]) w' ∧ MpB w' b n (if S i = true then c - 1 else c) (fun j => if j = i then false else S j) (D.del (.int .i64 i)) ∧ Sp [b] w w' := by
  have hkey := int_lit hi.1 hi.2
  obtain ⟨w', hrun, ho, hg⟩ := h.own.drop int_key Try.underlying44 hkey ty
  have hT := h.own.tidy int_key
  refine ⟨w', hrun, ⟨ho, ?_, fun j hj => ?_⟩, (grown_sp hg.grown)⟩
  · have := Maps.size_del (k := Lit.int .i64 i) hT
    rw [(h.at_ i hi).1, h.sz] at this
    split
    · rename_i e; rw [if_pos e] at this; omega
    · rename_i e; rw [if_neg e] at this; omega
  · by_cases e : j = i
    · subst e
      show _ = (if j = j then false else S j) ∧ ((if j = j then false else S j) = true → _)
      rw [if_pos rfl]
      exact ⟨Maps.has_del_same, fun h => by cases h⟩
    · show _ = (if j = i then false else S j) ∧ ((if j = i then false else S j) = true → _)
      rw [if_neg e]
      have hne : (Lit.int .i64 j) ≠ (Lit.int .i64 i) := fun h => by
        injection h with _ h
        exact e h
      rw [Maps.has_del_other hne, Maps.atKey_del_other hne]
      exact h.at_ j hj

end Go.Proofs.Ytpeckfeiaomieaa
