/-
  A map of texts of the call's own, by a function. No condition.
-/
import Derived.Test.YtdfdoinhkjoalaaQuLaw
import Derived.Maps.OwnSet
import Derived.WideKeyPair
import Derived.Maps.StringElems
namespace Go.Proofs.Ytdfdoinhkjoalaa
open Go.RowKit Plain Go.Maps Go.WideMaps
set_option linter.unusedVariables false

theorem int_key : Keyed Try.prog 3 := int_keyed Try.underlying3
theorem int_lit {a : Int} (h1 : -9223372036854775808 ≤ a) (h2 : a ≤ 9223372036854775807) : keyOf Try.prog 3 (.int .i64 a) = some (.int .i64 a) := keyOf_int_mk Try.underlying3 (WalkArith.wf_i64 (by omega))
theorem zeroS (w : World) : (zeroValue 9).run Try.prog w = .ok (.string ByteArray.empty) w := by kernel_rfl
def iOk (i : Int) : Prop := -9223372036854775808 ≤ i ∧ i ≤ 9223372036854775807
/-- block b is a map of texts, c of them: f tells which. -/
structure MpS (w : World) (b n c : Nat) (f : Int → Option ByteArray) (D : DataW Unit) : Prop where
  own : w.ownsMap Try.prog 3 (plainElem Try.prog 9) b n D
  sz : Maps.size D = c
  at_ : ∀ i, iOk i → Maps.has D (.int .i64 i) = (f i).isSome ∧ ∀ s, f i = some s → s.size ≤ 64 ∧ ∀ z, D.atKey (.int .i64 i) z = .lit (.string s.data.toList)
theorem MpS.lt {w : World} {b n c : Nat} {f : Int → Option ByteArray} {D : DataW Unit} (h : MpS w b n c f D) : b < w.heap.size := h.own.lt
theorem MpS.kp {w w' : World} {b n c : Nat} {f : Int → Option ByteArray} {D : DataW Unit} (h : MpS w b n c f D) (k : Kp w w') : MpS w' b n c f D := by
  have hlt := h.own.lt
  obtain ⟨es, clock, hbk, F⟩ := h.own
  exact ⟨⟨es, clock, (k.block b hlt).trans hbk, F⟩, h.sz, h.at_⟩
theorem MpS.sp {w w' : World} {b n c : Nat} {f : Int → Option ByteArray} {D : DataW Unit} {T : List Nat} (h : MpS w b n c f D) (k : Sp T w w') (hb : b ∉ T) : MpS w' b n c f D := by
  have hlt := h.own.lt
  obtain ⟨es, clock, hbk, F⟩ := h.own
  exact ⟨⟨es, clock, (k.block b hlt hb).trans hbk, F⟩, h.sz, h.at_⟩
theorem MpS.made (w : World) : MpS (w.alloc (.map #[] 0)) w.heap.size 0 0 (fun _ => none) (.map []) :=
  ⟨World.ownsMap_made w _ _ _, rfl, fun _ _ => ⟨rfl, fun _ h => by cases h⟩⟩
theorem data_inj {a b : ByteArray} (h : a.data.toList = b.data.toList) : a = b := by
  obtain ⟨⟨x⟩⟩ := a
  obtain ⟨⟨y⟩⟩ := b
  simpa using h
theorem MpS.look {w : World} {b n c : Nat} {f : Int → Option ByteArray} {D : DataW Unit} (h : MpS w b n c f D) {i : Int} (hi : iOk i) {s : ByteArray} (hs : f i = some s) :
    (Instr.lookup 56 (.map (some b)) (.int .i64 i) false).run Try.prog w = .ok (.string s) w := by
  obtain ⟨v, ps, hrun, hv⟩ := h.own.lookup int_key Try.underlying56 (zeroS w) (plainElem_string Try.underlying9 (by decide)) (int_lit hi.1 hi.2)
  rw [((h.at_ i hi).2 s hs).2] at hv
  obtain ⟨x, rfl, hx, _⟩ := plainElem_string_inv Try.underlying9 hv
  simp only [Prod.mk.injEq, DataW.lit.injEq, Lit.string.injEq] at hx
  rw [hrun, data_inj hx.1]
theorem MpS.ask {w : World} {b n c : Nat} {f : Int → Option ByteArray} {D : DataW Unit} (h : MpS w b n c f D) {i : Int} (hi : iOk i) :
    (Instr.lookup 56 (.map (some b)) (.int .i64 i) true).run Try.prog w = .ok (.tuple #[.string ((f i).getD ByteArray.empty), .bool (f i).isSome]) w := by
  obtain ⟨v, ps, hrun, hv⟩ := h.own.look_ok int_key Try.underlying56 (zeroS w) (plainElem_string Try.underlying9 (by decide)) (int_lit hi.1 hi.2)
  rw [(h.at_ i hi).1] at hrun
  cases hf : f i with
  | none =>
    rw [Maps.atKey_of_not_has (by rw [(h.at_ i hi).1, hf]; rfl)] at hv
    obtain ⟨x, rfl, hx, _⟩ := plainElem_string_inv Try.underlying9 hv
    simp only [Prod.mk.injEq, DataW.lit.injEq, Lit.string.injEq] at hx
    rw [hf] at hrun
    rw [hrun, ← data_inj hx.1]; rfl
  | some s =>
    rw [((h.at_ i hi).2 s hf).2] at hv
    obtain ⟨x, rfl, hx, _⟩ := plainElem_string_inv Try.underlying9 hv
    simp only [Prod.mk.injEq, DataW.lit.injEq, Lit.string.injEq] at hx
    rw [hf] at hrun
    rw [hrun, ← data_inj hx.1]; rfl
theorem MpS.len {w : World} {b n c : Nat} {f : Int → Option ByteArray} {D : DataW Unit} (h : MpS w b n c f D) (ty : TypeId) : (Builtin.len_ #[56] ty #[.map (some b)]).run Try.prog w = .ok (.int .i64 (c : Int)) w := by
  rw [h.own.len Try.underlying56 ty, h.sz]
theorem MpS.put {w : World} {b n c : Nat} {f : Int → Option ByteArray} {D : DataW Unit} (h : MpS w b n c f D) {i : Int} (hi : iOk i) (hn : n < 1000) (s : ByteArray) (hs : s.size ≤ 64) :
    ∃ w' D', (Instr.mapUpdate 56 (.map (some b)) (.int .i64 i) (.string s)).run Try.prog w = .ok () w' ∧ MpS w' b (n + 1) (if (f i).isSome = true then c else c + 1) (fun j => if j = i then some s else f j) D' ∧ w.grownBy w' (some b) := by
  have hkey := int_lit hi.1 hi.2
  obtain ⟨w', hrun, ho, hg⟩ := h.own.update int_key Try.underlying56 (by unfold maxLen; omega) hkey (plainElem_string Try.underlying9 (s := s) (by unfold maxLen; omega))
  have hT := h.own.tidy int_key
  refine ⟨w', _, hrun, ⟨ho, ?_, fun j hj => ?_⟩, hg⟩
  · rw [Maps.size_put hT, (h.at_ i hi).1, h.sz]
  · by_cases e : j = i
    · subst e
      show _ = (if j = j then some s else f j).isSome ∧ ∀ u, (if j = j then some s else f j) = some u → _
      rw [if_pos rfl]
      refine ⟨Maps.has_put_same (h.own.isMap) (by trivial) _, fun u hu => ?_⟩
      obtain rfl : s = u := Option.some.inj hu
      exact ⟨hs, fun z => Maps.atKey_put_same (h.own.isMap) (by trivial) _ _⟩
    · show _ = (if j = i then some s else f j).isSome ∧ ∀ u, (if j = i then some s else f j) = some u → _
      rw [if_neg e]
      have hne : (Lit.int .i64 j) ≠ (Lit.int .i64 i) := fun h => by
        injection h with _ h
        exact e h
      rw [Maps.has_put_other hne]
      refine ⟨(h.at_ j hj).1, fun u hu => ⟨((h.at_ j hj).2 u hu).1, fun z => ?_⟩⟩
      rw [Maps.atKey_put_other hne]
      exact ((h.at_ j hj).2 u hu).2 z

end Go.Proofs.Ytdfdoinhkjoalaa
