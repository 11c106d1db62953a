/-
  Maps of the call's own whose keys are numbers: a set (Pn), of numbers, of truths. No condition.
-/
import Derived.Test.YteiangakgfekgaaTuPlain
import Derived.Maps.OwnSet
import Derived.Maps.RangeWalk
import Derived.WideKeyPair
namespace Go.Proofs.Yteiangakgfekgaa
open Go.RowKit Plain Go.Maps Go.WideMaps
set_option linter.unusedVariables false

theorem int_key : Keyed Try.prog 3 := int_keyed Try.underlying3
theorem int_lit {a : Int} (h1 : -9223372036854775808 ≤ a) (h2 : a ≤ 9223372036854775807) : keyOf Try.prog 3 (.int .i64 a) = some (.int .i64 a) := keyOf_int_mk Try.underlying3 (WalkArith.wf_i64 (by omega))
theorem zeroI (w : World) : (zeroValue 3).run Try.prog w = .ok (.int .i64 0) w := by kernel_rfl
/-! ### a set: map[int]struct{} -/
theorem zeroU (w : World) : (zeroValue 66).run Try.prog w = .ok (.agg #[]) w := by kernel_rfl
/-- block b is a set of numbers, written n times: K tells which. -/
def Pn (w : World) (b n : Nat) (K : Int → Bool) : Prop := ∃ D : DataW Unit, w.ownsMap Try.prog 3 unitElem b n D ∧ ∀ i, iOk i → Maps.has D (.int .i64 i) = K i
theorem Pn.lt {w : World} {b n : Nat} {K : Int → Bool} (h : Pn w b n K) : b < w.heap.size := by obtain ⟨D, h, _⟩ := h; exact h.lt
theorem Pn.blk {w w' : World} {b n : Nat} {K : Int → Bool} (h : Pn w b n K) (k : w'.heap[b]? = w.heap[b]?) : Pn w' b n K := by
  obtain ⟨D, ⟨es, clock, hbk, F⟩, h2⟩ := h
  exact ⟨D, ⟨es, clock, k.trans hbk, F⟩, h2⟩
theorem Pn.made (w : World) : Pn (w.alloc (.map #[] 0)) w.heap.size 0 (fun _ => false) := ⟨.map [], World.ownsMap_made w _ _ _, fun _ _ => rfl⟩
theorem Pn.look {w : World} {b n : Nat} {K : Int → Bool} (h : Pn w b n K) {i : Int} (hi : iOk i) :
    (Instr.lookup 57 (.map (some b)) (.int .i64 i) true).run Try.prog w = .ok (.tuple #[.agg #[], .bool (K i)]) w := by
  obtain ⟨D, h1, h2⟩ := h
  obtain ⟨v, ps, hrun, hv⟩ := h1.look_ok int_key Try.underlying57 (zeroU w) unitElem_mk (int_lit hi.1 hi.2)
  obtain ⟨rfl, _⟩ := unitElem_inv hv
  rw [hrun, h2 i hi]
theorem Pn.put {w : World} {b n : Nat} {K : Int → Bool} (h : Pn w b n K) {i : Int} (hi : iOk i) (hn : n < 1000) :
    ∃ w', (Instr.mapUpdate 57 (.map (some b)) (.int .i64 i) (.agg #[])).run Try.prog w = .ok () w' ∧ Pn w' b (n + 1) (setK K i true) ∧ Sp [b] w w' := by
  obtain ⟨D, h1, h2⟩ := h
  obtain ⟨w', hrun, ho, hg⟩ := h1.update int_key Try.underlying57 (by unfold maxLen; omega) (int_lit hi.1 hi.2) unitElem_mk
  refine ⟨w', hrun, ⟨_, ho, fun j hj => ?_⟩, grown_sp hg⟩
  unfold setK
  by_cases e : j = i
  · subst e
    rw [if_pos rfl]
    exact Maps.has_put_same h1.isMap (by trivial) _
  · rw [if_neg e, Maps.has_put_other (fun h => by injection h with _ h; exact e h)]
    exact h2 j hj
theorem Pn.del {w : World} {b n : Nat} {K : Int → Bool} (h : Pn w b n K) {i : Int} (hi : iOk i) :
    ∃ w', (∀ ty, (Builtin.delete_ #[57, 3] ty #[.map (some b), .int .i64 i]).run Try.prog w = .ok (.tuple #[]) w') ∧ Pn w' b n (setK K i false) ∧ Sp [b] w w' := by
  obtain ⟨D, h1, h2⟩ := h
  obtain ⟨w', hrun, ho, hg⟩ := h1.drop int_key Try.underlying57 (int_lit hi.1 hi.2) 0
  refine ⟨w', fun ty => hrun, ⟨_, ho, fun j hj => ?_⟩, grown_sp hg.grown⟩
  unfold setK
  by_cases e : j = i
  · subst e
    rw [if_pos rfl]
    exact Maps.has_del_same
  · rw [if_neg e, Maps.has_del_other (fun h => by injection h with _ h; exact e h)]
    exact h2 j hj
theorem Pn.more {w : World} {b n : Nat} {K : Int → Bool} (h : Pn w b n K) : Pn w b (n + 1) K := by
  obtain ⟨D, ⟨es, clock, hbk, F, hs, r⟩, h2⟩ := h
  exact ⟨D, ⟨es, clock, hbk, F, Nat.le_succ_of_le hs, r⟩, h2⟩

/-! ### maps of numbers, of truths -/
/-- block b is a map of numbers, c of them: f tells which. -/
structure MpI (w : World) (b n c : Nat) (f : Int → Option Int) (D : DataW Unit) : Prop where
  own : w.ownsMap Try.prog 3 (plainElem Try.prog 3) b n D
  sz : Maps.size D = c
  at_ : ∀ i, iOk i → Maps.has D (.int .i64 i) = (f i).isSome ∧ ∀ s, f i = some s → ∀ z, D.atKey (.int .i64 i) z = .lit (.int .i64 s)
theorem MpI.lt {w : World} {b n c : Nat} {f : Int → Option Int} {D : DataW Unit} (h : MpI w b n c f D) : b < w.heap.size := h.own.lt
theorem MpI.blk {w w' : World} {b n c : Nat} {f : Int → Option Int} {D : DataW Unit} (h : MpI w b n c f D) (k : w'.heap[b]? = w.heap[b]?) : MpI w' b n c f D := by
  obtain ⟨es, clock, hbk, F⟩ := h.own
  exact ⟨⟨es, clock, k.trans hbk, F⟩, h.sz, h.at_⟩
theorem MpI.made (w : World) : MpI (w.alloc (.map #[] 0)) w.heap.size 0 0 (fun _ => none) (.map []) :=
  ⟨World.ownsMap_made w _ _ _, rfl, fun _ _ => ⟨rfl, fun _ h => by cases h⟩⟩
theorem MpI.look {w : World} {b n c : Nat} {f : Int → Option Int} {D : DataW Unit} (h : MpI w b n c f D) {i : Int} (hi : iOk i) {s : Int} (hs : f i = some s) :
    (Instr.lookup 55 (.map (some b)) (.int .i64 i) false).run Try.prog w = .ok (.int .i64 s) w := by
  obtain ⟨v, ps, hrun, hv⟩ := h.own.lookup int_key Try.underlying55 (zeroI w) (plainElem_int Try.underlying3 (by decide)) (int_lit hi.1 hi.2)
  rw [(h.at_ i hi).2 s hs] at hv
  obtain ⟨x, rfl, hx, _⟩ := plainElem_int_inv Try.underlying3 hv
  simp only [Prod.mk.injEq, DataW.lit.injEq, Lit.int.injEq] at hx
  rw [hrun, hx.1.2]
theorem MpI.len {w : World} {b n c : Nat} {f : Int → Option Int} {D : DataW Unit} (h : MpI w b n c f D) (ty : TypeId) : (Builtin.len_ #[55] ty #[.map (some b)]).run Try.prog w = .ok (.int .i64 (c : Int)) w := by
  rw [h.own.len Try.underlying55 ty, h.sz]
theorem MpI.put {w : World} {b n c : Nat} {f : Int → Option Int} {D : DataW Unit} (h : MpI w b n c f D) {i : Int} (hi : iOk i) (hn : n < 1000) {s : Int} (hs : iOk s) :
    ∃ w' D', (Instr.mapUpdate 55 (.map (some b)) (.int .i64 i) (.int .i64 s)).run Try.prog w = .ok () w' ∧ MpI w' b (n + 1) (if (f i).isSome = true then c else c + 1) (fun j => if j = i then some s else f j) D' ∧ Sp [b] w w' := by
  have hkey := int_lit hi.1 hi.2
  obtain ⟨w', hrun, ho, hg⟩ := h.own.update int_key Try.underlying55 (by unfold maxLen; omega) hkey (plainElem_int Try.underlying3 (WalkArith.wf_i64 (by unfold iOk at hs; omega)))
  have hT := h.own.tidy int_key
  refine ⟨w', _, hrun, ⟨ho, ?_, fun j hj => ?_⟩, grown_sp hg⟩
  · rw [Maps.size_put hT, (h.at_ i hi).1, h.sz]
  · by_cases e : j = i
    · subst e
      show _ = (if j = j then some s else f j).isSome ∧ ∀ u, (if j = j then some s else f j) = some u → _
      rw [if_pos rfl]
      refine ⟨Maps.has_put_same (h.own.isMap) (by trivial) _, fun u hu => ?_⟩
      obtain rfl : s = u := Option.some.inj hu
      exact fun z => Maps.atKey_put_same (h.own.isMap) (by trivial) _ _
    · show _ = (if j = i then some s else f j).isSome ∧ ∀ u, (if j = i then some s else f j) = some u → _
      rw [if_neg e]
      have hne : (Lit.int .i64 j) ≠ (Lit.int .i64 i) := fun h => by
        injection h with _ h
        exact e h
      rw [Maps.has_put_other hne]
      refine ⟨(h.at_ j hj).1, fun u hu z => ?_⟩
      rw [Maps.atKey_put_other hne]
      exact (h.at_ j hj).2 u hu z
theorem MpI.del {w : World} {b n c : Nat} {f : Int → Option Int} {D : DataW Unit} (h : MpI w b n c f D) {i : Int} (hi : iOk i) (ty : TypeId) :
    ∃ w', (Builtin.delete_ #[55, 3] ty #[.map (some b), .int .i64 i]).run Try.prog w = .ok (.tuple #[]) w' ∧ MpI w' b n (if (f i).isSome = true then c - 1 else c) (fun j => if j = i then none else f j) (D.del (.int .i64 i)) ∧ Sp [b] w w' := by
  have hkey := int_lit hi.1 hi.2
  obtain ⟨w', hrun, ho, hg⟩ := h.own.drop int_key Try.underlying55 hkey ty
  have hT := h.own.tidy int_key
  refine ⟨w', hrun, ⟨ho, ?_, fun j hj => ?_⟩, grown_sp hg.grown⟩
  · have := Maps.size_del (k := Lit.int .i64 i) hT
    rw [(h.at_ i hi).1, h.sz] at this
    split
    · rename_i e; rw [if_pos e] at this; omega
    · rename_i e; rw [if_neg e] at this; omega
  · by_cases e : j = i
    · subst e
      show _ = (if j = j then none else f j).isSome ∧ ∀ u, (if j = j then none else f j) = some u → _
      rw [if_pos rfl]
      exact ⟨Maps.has_del_same, fun u h => by cases h⟩
    · show _ = (if j = i then none else f j).isSome ∧ ∀ u, (if j = i then none else f j) = some u → _
      rw [if_neg e]
      have hne : (Lit.int .i64 j) ≠ (Lit.int .i64 i) := fun h => by
        injection h with _ h
        exact e h
      rw [Maps.has_del_other hne]
      refine ⟨(h.at_ j hj).1, fun u hu z => ?_⟩
      rw [Maps.atKey_del_other hne]
      exact (h.at_ j hj).2 u hu z

/-! ### truths -/
theorem zeroB (w : World) : (zeroValue 4).run Try.prog w = .ok (.bool false) w := by kernel_rfl
set_option maxRecDepth 100000 in
theorem elem_bool {v : Value} {z : DataW Unit × List MemPlace} (h : plainElem Try.prog 4 v = some z) : ∃ x, v = .bool x ∧ z = (.lit (.bool x), []) := by
  unfold plainElem at h
  rw [Try.underlying4] at h
  cases v <;> simp at h
  exact ⟨_, rfl, h.symm⟩
structure MpB (w : World) (b n c : Nat) (S : Int → Bool) (D : DataW Unit) : Prop where
  own : w.ownsMap Try.prog 3 (plainElem Try.prog 4) b n D
  sz : Maps.size D = c
  at_ : ∀ i, iOk i → Maps.has D (.int .i64 i) = S i ∧ (S i = true → D.atKey (.int .i64 i) (.lit (.bool false)) = .lit (.bool true))
theorem MpB.lt {w : World} {b n c : Nat} {S : Int → Bool} {D : DataW Unit} (h : MpB w b n c S D) : b < w.heap.size := h.own.lt
theorem MpB.blk {w w' : World} {b n c : Nat} {S : Int → Bool} {D : DataW Unit} (h : MpB w b n c S D) (k : w'.heap[b]? = w.heap[b]?) : MpB w' b n c S D := by
  obtain ⟨es, clock, hbk, F⟩ := h.own
  exact ⟨⟨es, clock, k.trans hbk, F⟩, h.sz, h.at_⟩
theorem MpB.made (w : World) : MpB (w.alloc (.map #[] 0)) w.heap.size 0 0 (fun _ => false) (.map []) := ⟨World.ownsMap_made w _ _ _, rfl, fun _ _ => ⟨rfl, fun h => by cases h⟩⟩
theorem MpB.look {w : World} {b n c : Nat} {S : Int → Bool} {D : DataW Unit} (h : MpB w b n c S D) {i : Int} (hi : iOk i) :
    (Instr.lookup 50 (.map (some b)) (.int .i64 i) false).run Try.prog w = .ok (.bool (S i)) w := by
  obtain ⟨v, ps, hrun, hv⟩ := h.own.lookup int_key Try.underlying50 (zeroB w) (plainElem_bool Try.underlying4 false) (int_lit hi.1 hi.2)
  obtain ⟨g1, g2⟩ := h.at_ i hi
  have e : D.atKey (.int .i64 i) (.lit (.bool false)) = .lit (.bool (S i)) := by
    cases hS : S i with
    | true => exact g2 hS
    | false => exact Maps.atKey_of_not_has (by rw [g1, hS]) _
  rw [e] at hv
  obtain ⟨x, rfl, hx⟩ := elem_bool hv
  simp only [Prod.mk.injEq, DataW.lit.injEq, Lit.bool.injEq] at hx
  rw [hrun, hx.1]
theorem MpB.len {w : World} {b n c : Nat} {S : Int → Bool} {D : DataW Unit} (h : MpB w b n c S D) (ty : TypeId) : (Builtin.len_ #[50] ty #[.map (some b)]).run Try.prog w = .ok (.int .i64 (c : Int)) w := by
  rw [h.own.len Try.underlying50 ty, h.sz]
theorem MpB.put {w : World} {b n c : Nat} {S : Int → Bool} {D : DataW Unit} (h : MpB w b n c S D) {i : Int} (hi : iOk i) (hn : n < 1000) :
    ∃ w' D', (Instr.mapUpdate 50 (.map (some b)) (.int .i64 i) (.bool true)).run Try.prog w = .ok () w' ∧ MpB w' b (n + 1) (if S i = true then c else c + 1) (fun j => if j = i then true else S j) D' ∧ Sp [b] w w' := by
  have hkey := int_lit hi.1 hi.2
  obtain ⟨w', hrun, ho, hg⟩ := h.own.update int_key Try.underlying50 (by unfold maxLen; omega) hkey (plainElem_bool Try.underlying4 true)
  have hT := h.own.tidy int_key
  refine ⟨w', _, hrun, ⟨ho, ?_, fun j hj => ?_⟩, (grown_sp hg)⟩
  · rw [Maps.size_put hT, (h.at_ i hi).1, h.sz]
  · by_cases e : j = i
    · subst e
      show _ = (if j = j then true else S j) ∧ ((if j = j then true else S j) = true → _)
      rw [if_pos rfl]
      exact ⟨Maps.has_put_same (h.own.isMap) (by trivial) _, fun _ => Maps.atKey_put_same (h.own.isMap) (by trivial) _ _⟩
    · show _ = (if j = i then true else S j) ∧ ((if j = i then true else S j) = true → _)
      rw [if_neg e]
      have hne : (Lit.int .i64 j) ≠ (Lit.int .i64 i) := fun h => by
        injection h with _ h
        exact e h
      rw [Maps.has_put_other hne, Maps.atKey_put_other hne]
      exact h.at_ j hj
theorem MpB.del {w : World} {b n c : Nat} {S : Int → Bool} {D : DataW Unit} (h : MpB w b n c S D) {i : Int} (hi : iOk i) (ty : TypeId) :
    ∃ w', (Builtin.delete_ #[50, 3] ty #[.map (some b), .int .i64 i]).run Try.prog w = .ok (.tuple #[]) w' ∧ MpB w' b n (if S i = true then c - 1 else c) (fun j => if j = i then false else S j) (D.del (.int .i64 i)) ∧ Sp [b] w w' := by
  have hkey := int_lit hi.1 hi.2
  obtain ⟨w', hrun, ho, hg⟩ := h.own.drop int_key Try.underlying50 hkey ty
  have hT := h.own.tidy int_key
  refine ⟨w', hrun, ⟨ho, ?_, fun j hj => ?_⟩, (grown_sp hg.grown)⟩
  · have := Maps.size_del (k := Lit.int .i64 i) hT
    rw [(h.at_ i hi).1, h.sz] at this
    split
    · rename_i e; rw [if_pos e] at this; omega
    · rename_i e; rw [if_neg e] at this; omega
  · by_cases e : j = i
    · subst e
      show _ = (if j = j then false else S j) ∧ ((if j = j then false else S j) = true → _)
      rw [if_pos rfl]
      exact ⟨Maps.has_del_same, fun h => by cases h⟩
    · show _ = (if j = i then false else S j) ∧ ((if j = i then false else S j) = true → _)
      rw [if_neg e]
      have hne : (Lit.int .i64 j) ≠ (Lit.int .i64 i) := fun h => by
        injection h with _ h
        exact e h
      rw [Maps.has_del_other hne, Maps.atKey_del_other hne]
      exact h.at_ j hj

end Go.Proofs.Yteiangakgfekgaa
