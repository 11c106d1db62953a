/-
  Arguments of layer 8's laws, opened: a span, a list of spans. No condition.
-/
import Derived.Test.YtmkmejdbhikomaaSpWakes
import Derived.Test.YtmkmejdbhikomaaBufArgs
import Derived.Deep.SlicePairs
namespace Go.Proofs.Ytmkmejdbhikomaa
open Go.ChangeShapes Go.WideShapes Go.ChangeAt Go.RowKit Plain

section
variable {H : Type} {enc : TypeId × Value → H} {P : Program}
theorem open_span {t : TypeId} {f0 f1 : Field} {W : World} {r : Reach} {b0 base : Nat} {sp : Nat → Bool} {held : Bool} {v : Value} {d : DataW H} {ps : List MemPlace} (hu : P.underlying t = some (.struct #[f0, f1])) (ce : P.cellsOf t = 2) (o0 : f0.offset = 0) (o1 : f1.offset = 1) (c0 : P.cellsOf f0.type = 1) (c1 : P.cellsOf f1.type = 1)
    (e0 : P.underlying f0.type = some (.int .i64)) (e1 : P.underlying f1.type = some (.int .i64)) (hval : Value.okWide P W r b0 t v) (hd : DataW.Trod enc P W base sp held t v d ps) : ∃ a b : Int, v = .agg #[.int .i64 a, .int .i64 b] ∧ (Lit.int .i64 a).wf = true ∧ (Lit.int .i64 b).wf = true := by
  have hp : ∃ x y, v = .agg #[x, y] := by
    simp only [Value.okWide, hu] at hval
    obtain ⟨cs, h1, h2, _⟩ := hval
    rw [ce] at h2
    obtain ⟨l⟩ := cs
    match l, h2 with
    | [x, y], _ => exact ⟨x, y, h1⟩
  obtain ⟨x, y, rfl⟩ := hp
  obtain ⟨fuel, hf⟩ := hd
  obtain ⟨xs, k, hk, hxy, _, hxl, hff⟩ := DataW.trod_struct hu hf
  have g0 := hff 0 f0 rfl
  have g1 := hff 1 f1 rfl
  simp only [Value.cells] at g0 g1
  match xs, hxl with
  | [y0, y1], _ =>
    simp [o0, o1, c0, c1] at g0 g1
    obtain ⟨a, ea, rfl, wa⟩ := DataW.trod_int e0 g0
    obtain ⟨b, eb, rfl, wb⟩ := DataW.trod_int e1 g1
    simp at ea eb
    subst ea; subst eb
    exact ⟨a, b, rfl, wa, wb⟩
theorem open_spans {t e : TypeId} {f0 f1 : Field} {W : World} {base : Nat} {v : Value} {d : DataW H} {ps : List MemPlace} (ht : P.underlying t = some (.slice e)) (he : P.underlying e = some (.struct #[f0, f1])) (ce : P.cellsOf e = 2) (o0 : f0.offset = 0) (o1 : f1.offset = 1) (c0 : P.cellsOf f0.type = 1) (c1 : P.cellsOf f1.type = 1)
    (e0 : P.underlying f0.type = some (.int .i64)) (e1 : P.underlying f1.type = some (.int .i64))
    (hv : Value.okWide P W .any base t v) (h : DataW.Trod enc P W 0 (fun _ => true) true t v d ps) : ∃ l : List (Int × Int), SpIn W v l := by
  obtain ⟨a0, len, cap, rfl⟩ := okWide_slice ht hv
  obtain ⟨fuel, hf⟩ := h
  rcases Go.Deep.open_slice_pairs ht he ce o0 o1 c0 c1 hf with ⟨hcs, _⟩ | ⟨a, len', cap', m, n, V0, V1, D0, D1, P0, P1, hcs, _, hl, hm, hmm, _, hx⟩
  · simp [Value.cells] at hcs
    obtain ⟨rfl, rfl, rfl⟩ := hcs
    exact ⟨[], SpIn.nil W⟩
  · simp [Value.cells] at hcs
    obtain ⟨rfl, rfl, rfl⟩ := hcs
    simp only [if_true] at hmm
    rw [hmm] at hx
    by_cases h0 : len = 0
    · subst h0
      exact ⟨[], _, 0, 0, cap, rfl, ⟨fun h => absurd h (by simp), fun h => (by cases h), by simp, hm, fun i h => absurd h (by simp), fun i h => absurd h (by simp)⟩⟩
    · have hz : ∀ i, i < cap → ∃ z : Int × Int, V0 i = .int .i64 z.1 ∧ V1 i = .int .i64 z.2 := fun i hi => by
        obtain ⟨_, _, h2, h3⟩ := hx i hi
        obtain ⟨p, ep, _, _⟩ := DataW.trod_int e0 h2
        obtain ⟨q, eq, _, _⟩ := DataW.trod_int e1 h3
        simp at ep eq
        exact ⟨(p, q), ep, eq⟩
      obtain ⟨Z, hZ⟩ := Go.Deep.choose_lt hz
      obtain ⟨b, off, spot⟩ := a
      have hspot : spot = none := by simpa [Addr.add] using World.cell?_spot (hx 0 (by omega)).1
      subst hspot
      have hlen : ((List.range len).map Z).length = len := by simp
      have hat : ∀ i, i < len → ((List.range len).map Z).getD i (0, 0) = Z i := fun i hi => by simp [List.getD_eq_getElem?_getD, hi]
      refine ⟨(List.range len).map Z, _, b, off, cap, by rw [hlen], ⟨fun _ => rfl, fun h => (by cases h), by rw [hlen]; exact hl, hm, fun i hi => ?_, fun i hi => ?_⟩⟩
      · rw [hlen] at hi
        rw [hat i hi, ← (hZ i (by omega)).1]
        have := (hx i (by omega)).1
        rwa [Addr.add_lit] at this
      · rw [hlen] at hi
        rw [hat i hi, ← (hZ i (by omega)).2]
        have := (hx i (by omega)).2.1
        rw [Addr.add_lit] at this
        rw [Nat.add_assoc]
        exact this
end

end Go.Proofs.Ytmkmejdbhikomaa
