/-
  Maps of the call's own whose keys are numbers: a set (Pn), of numbers, of truths. No condition.
-/
import Derived.Test.YtncdidklgpmefaaDoorTuPlain
import Derived.Maps.OwnSet
import Derived.Maps.RangeWalk
import Derived.WideKeyPair
namespace Go.Proofs.YtncdidklgpmefaaDoor
open Go.RowKit Plain Go.Maps Go.WideMaps
set_option linter.unusedVariables false

theorem int_key : Keyed Tryd.prog 3 := int_keyed Tryd.underlying3
theorem int_lit {a : Int} (h1 : -9223372036854775808 ≤ a) (h2 : a ≤ 9223372036854775807) : keyOf Tryd.prog 3 (.int .i64 a) = some (.int .i64 a) := keyOf_int_mk Tryd.underlying3 (WalkArith.wf_i64 (by omega))
theorem zeroI (w : World) : (zeroValue 3).run Tryd.prog w = .ok (.int .i64 0) w := by kernel_rfl
/-! ### a set: map[int]struct{} -/
theorem zeroU (w : World) : (zeroValue 105).run Tryd.prog w = .ok (.agg #[]) w := by kernel_rfl
/-- block b is a set of numbers, written n times: K tells which. -/
def Pn (w : World) (b n : Nat) (K : Int → Bool) : Prop := ∃ D : DataW Unit, w.ownsMap Tryd.prog 3 unitElem b n D ∧ ∀ i, iOk i → Maps.has D (.int .i64 i) = K i
theorem Pn.lt {w : World} {b n : Nat} {K : Int → Bool} (h : Pn w b n K) : b < w.heap.size := by obtain ⟨D, h, _⟩ := h; exact h.lt
theorem Pn.blk {w w' : World} {b n : Nat} {K : Int → Bool} (h : Pn w b n K) (k : w'.heap[b]? = w.heap[b]?) : Pn w' b n K := by
  obtain ⟨D, ⟨es, clock, hbk, F⟩, h2⟩ := h
  exact ⟨D, ⟨es, clock, k.trans hbk, F⟩, h2⟩
theorem Pn.made (w : World) : Pn (w.alloc (.map #[] 0)) w.heap.size 0 (fun _ => false) := ⟨.map [], World.ownsMap_made w _ _ _, fun _ _ => rfl⟩
theorem Pn.look {w : World} {b n : Nat} {K : Int → Bool} (h : Pn w b n K) {i : Int} (hi : iOk i) :
    (Instr.lookup 96 (.map (some b)) (.int .i64 i) true).run Tryd.prog w = .ok (.tuple #[.agg #[], .bool (K i)]) w := by
  obtain ⟨D, h1, h2⟩ := h
  obtain ⟨v, ps, hrun, hv⟩ := h1.look_ok int_key Tryd.underlying96 (zeroU w) unitElem_mk (int_lit hi.1 hi.2)
  obtain ⟨rfl, _⟩ := unitElem_inv hv
  rw [hrun, h2 i hi]
theorem Pn.put {w : World} {b n : Nat} {K : Int → Bool} (h : Pn w b n K) {i : Int} (hi : iOk i) (hn : n < 1000) :
    ∃ w', (Instr.mapUpdate 96 (.map (some b)) (.int .i64 i) (.agg #[])).run Tryd.prog w = .ok () w' ∧ Pn w' b (n + 1) (setK K i true) ∧ Sp [b] w w' := by
  obtain ⟨D, h1, h2⟩ := h
  obtain ⟨w', hrun, ho, hg⟩ := h1.update int_key Tryd.underlying96 (by unfold maxLen; omega) (int_lit hi.1 hi.2) unitElem_mk
  refine ⟨w', hrun, ⟨_, ho, fun j hj => ?_⟩, grown_sp hg⟩
  unfold setK
  by_cases e : j = i
  · subst e
    rw [if_pos rfl]
    exact Maps.has_put_same h1.isMap (by trivial) _
  · rw [if_neg e, Maps.has_put_other (fun h => by injection h with _ h; exact e h)]
    exact h2 j hj
theorem Pn.del {w : World} {b n : Nat} {K : Int → Bool} (h : Pn w b n K) {i : Int} (hi : iOk i) :
    ∃ w', (∀ ty, (Builtin.delete_ #[96, 3] ty #[.map (some b), .int .i64 i]).run Tryd.prog w = .ok (.tuple #[]) w') ∧ Pn w' b n (setK K i false) ∧ Sp [b] w w' := by
  obtain ⟨D, h1, h2⟩ := h
  obtain ⟨w', hrun, ho, hg⟩ := h1.drop int_key Tryd.underlying96 (int_lit hi.1 hi.2) 0
  refine ⟨w', fun ty => hrun, ⟨_, ho, fun j hj => ?_⟩, grown_sp hg.grown⟩
  unfold setK
  by_cases e : j = i
  · subst e
    rw [if_pos rfl]
    exact Maps.has_del_same
  · rw [if_neg e, Maps.has_del_other (fun h => by injection h with _ h; exact e h)]
    exact h2 j hj
theorem Pn.more {w : World} {b n : Nat} {K : Int → Bool} (h : Pn w b n K) : Pn w b (n + 1) K := by
  obtain ⟨D, ⟨es, clock, hbk, F, hs, r⟩, h2⟩ := h
  exact ⟨D, ⟨es, clock, hbk, F, Nat.le_succ_of_le hs, r⟩, h2⟩

/-! ### maps of numbers, of truths -/
/-- block b is a map of numbers, c of them: f tells which. -/
structure MpI (w : World) (b n c : Nat) (f : Int → Option Int) (D : DataW Unit) : Prop where
  own : w.ownsMap Tryd.prog 3 (plainElem Tryd.prog 3) b n D
  sz : Maps.size D = c
  at_ : ∀ i, iOk i → Maps.has D (.int .i64 i) = (f i).isSome ∧ ∀ s, f i = some s → ∀ z, D.atKey (.int .i64 i) z = .lit (.int .i64 s)
theorem MpI.lt {w : World} {b n c : Nat} {f : Int → Option Int} {D : DataW Unit} (h : MpI w b n c f D) : b < w.heap.size := h.own.lt
theorem MpI.blk {w w' : World} {b n c : Nat} {f : Int → Option Int} {D : DataW Unit} (h : MpI w b n c f D) (k : w'.heap[b]? = w.heap[b]?) : MpI w' b n c f D := by
  obtain ⟨es, clock, hbk, F⟩ := h.own
  exact ⟨⟨es, clock, k.trans hbk, F⟩, h.sz, h.at_⟩
theorem MpI.made (w : World) : MpI (w.alloc (.map #[] 0)) w.heap.size 0 0 (fun _ => none) (.map []) :=
  ⟨World.ownsMap_made w _ _ _, rfl, fun _ _ => ⟨rfl, fun _ h => by cases h⟩⟩

/-! ### truths -/
theorem zeroB (w : World) : (zeroValue 4).run Tryd.prog w = .ok (.bool false) w := by kernel_rfl
set_option maxRecDepth 100000 in
theorem elem_bool {v : Value} {z : DataW Unit × List MemPlace} (h : plainElem Tryd.prog 4 v = some z) : ∃ x, v = .bool x ∧ z = (.lit (.bool x), []) := by
  unfold plainElem at h
  rw [Tryd.underlying4] at h
  cases v <;> simp at h
  exact ⟨_, rfl, h.symm⟩
structure MpB (w : World) (b n c : Nat) (S : Int → Bool) (D : DataW Unit) : Prop where
  own : w.ownsMap Tryd.prog 3 (plainElem Tryd.prog 4) b n D
  sz : Maps.size D = c
  at_ : ∀ i, iOk i → Maps.has D (.int .i64 i) = S i ∧ (S i = true → D.atKey (.int .i64 i) (.lit (.bool false)) = .lit (.bool true))
theorem MpB.lt {w : World} {b n c : Nat} {S : Int → Bool} {D : DataW Unit} (h : MpB w b n c S D) : b < w.heap.size := h.own.lt
theorem MpB.blk {w w' : World} {b n c : Nat} {S : Int → Bool} {D : DataW Unit} (h : MpB w b n c S D) (k : w'.heap[b]? = w.heap[b]?) : MpB w' b n c S D := by
  obtain ⟨es, clock, hbk, F⟩ := h.own
  exact ⟨⟨es, clock, k.trans hbk, F⟩, h.sz, h.at_⟩
theorem MpB.made (w : World) : MpB (w.alloc (.map #[] 0)) w.heap.size 0 0 (fun _ => false) (.map []) := ⟨World.ownsMap_made w _ _ _, rfl, fun _ _ => ⟨rfl, fun h => by cases h⟩⟩

end Go.Proofs.YtncdidklgpmefaaDoor
