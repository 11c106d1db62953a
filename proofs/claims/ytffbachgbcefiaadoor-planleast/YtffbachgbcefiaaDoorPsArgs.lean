/-
  The laws' argument, opened: a state as plain data. No condition.
-/
import Derived.Test.YtffbachgbcefiaaDoorPsGx
import Derived.Test.YtffbachgbcefiaaDoorPsSt
import Derived.Test.YtffbachgbcefiaaDoorPsWk
import Derived.Test.YtffbachgbcefiaaDoorPsNames
import Derived.Test.YtffbachgbcefiaaDoorBufArgs
import Derived.ProofKit
import Derived.LaidMore
import Derived.OpenShut
namespace Go.Proofs.YtffbachgbcefiaaDoor
open Go.RowKit Go.ChangeShapes Go.WideShapes Plain
set_option linter.unusedVariables false

section
variable {P : Program} {H : Type} {enc : TypeId × Value → H}
theorem open_rx5 {t f0 f1 f2 f3 f4 : TypeId} {W : World} {fuel : Nat} {cs : List Value} {x : DataW H × List MemPlace} (F : Array Field) (hu : P.underlying t = some (.struct F)) (hF : F.toList.map (fun f => (f.type, f.offset)) = [(f0, 0), (f1, 1), (f2, 2), (f3, 3), (f4, 4)])
    (c0 : P.cellsOf f0 = 1) (c1 : P.cellsOf f1 = 1) (c2 : P.cellsOf f2 = 1) (c3 : P.cellsOf f3 = 1) (c4 : P.cellsOf f4 = 1) (ct : P.cellsOf t = 5)
    (e0 : P.underlying f0 = some (.int .i64)) (e1 : P.underlying f1 = some (.int .u64)) (e2 : P.underlying f2 = some (.int .u64)) (e3 : P.underlying f3 = some (.int .u64)) (e4 : P.underlying f4 = some (.int .u64))
    (h : DataW.trod enc P W 0 (fun _ => true) true fuel t cs = some x) : ∃ a : RX, cs = (rxA a).toList ∧ a.Ok := by
  obtain ⟨xs, k, hk, hxy, hcl, hxl, hff⟩ := DataW.trod_struct hu h
  have hsz : F.toList.length = 5 := by have := congrArg List.length hF; simpa using this
  obtain ⟨Fl⟩ := F
  match Fl, hsz with
  | [g0, g1, g2, g3, g4], _ =>
    simp only [List.map_cons, List.map_nil, List.cons.injEq, Prod.mk.injEq, and_true] at hF
    obtain ⟨⟨rfl, o0⟩, ⟨rfl, o1⟩, ⟨rfl, o2⟩, ⟨rfl, o3⟩, ⟨rfl, o4⟩⟩ := hF
    have q0 := hff 0 g0 rfl
    have q1 := hff 1 g1 rfl
    have q2 := hff 2 g2 rfl
    have q3 := hff 3 g3 rfl
    have q4 := hff 4 g4 rfl
    rw [ct] at hcl
    match xs, hxl, cs, hcl with
    | [y0, y1, y2, y3, y4], _, [v0, v1, v2, v3, v4], _ =>
      simp [o0, o1, o2, o3, o4, c0, c1, c2, c3, c4] at q0 q1 q2 q3 q4
      obtain ⟨a, ea, _, wa⟩ := DataW.trod_int e0 q0
      obtain ⟨b, eb, _, wb⟩ := DataW.trod_int e1 q1
      obtain ⟨c, ec, _, wc⟩ := DataW.trod_int e2 q2
      obtain ⟨d, ed, _, wd⟩ := DataW.trod_int e3 q3
      obtain ⟨e, ee, _, we⟩ := DataW.trod_int e4 q4
      simp at ea eb ec ed ee
      subst ea; subst eb; subst ec; subst ed; subst ee
      have wa := bounds_i64 wa
      have wb := bounds_u64 wb
      have wc := bounds_u64 wc
      have wd := bounds_u64 wd
      have we := bounds_u64 we
      obtain ⟨b, rfl⟩ : ∃ n : Nat, b = n := ⟨b.toNat, by omega⟩
      obtain ⟨c, rfl⟩ : ∃ n : Nat, c = n := ⟨c.toNat, by omega⟩
      obtain ⟨d, rfl⟩ : ∃ n : Nat, d = n := ⟨d.toNat, by omega⟩
      obtain ⟨e, rfl⟩ : ∃ n : Nat, e = n := ⟨e.toNat, by omega⟩
      exact ⟨⟨a, b, c, d, e⟩, rfl, ⟨by show _ ≤ a; omega, by show a ≤ _; omega, by show b < _; omega, by show c < _; omega, by show d < _; omega, by show e < _; omega⟩⟩
end
set_option maxRecDepth 100000 in
theorem open_rx {H : Type} {enc : TypeId × Value → H} {W : World} {r : Reach} {b0 : Nat} {v : Value} {d : DataW H} {ps : List MemPlace} (hval : Value.okWide Tryd.prog W r b0 24 v) (hd : DataW.Trod enc Tryd.prog W 0 (fun _ => true) true 24 v d ps) : ∃ a : RX, v = rxV a ∧ a.Ok := by
  have hp : ∃ A, v = .agg A := by
    simp only [Value.okWide, Tryd.underlying24] at hval
    obtain ⟨cs, h1, h2, _⟩ := hval
    exact ⟨cs, h1⟩
  obtain ⟨A, rfl⟩ := hp
  obtain ⟨fuel, hf⟩ := hd
  obtain ⟨a, h1, h2⟩ := open_rx5 (enc := enc) _ Tryd.underlying24 rfl (by kernel_rfl) (by kernel_rfl) (by kernel_rfl) (by kernel_rfl) (by kernel_rfl) (by kernel_rfl) Tryd.underlying3 Tryd.underlying22 Tryd.underlying22 Tryd.underlying22 Tryd.underlying22 hf
  refine ⟨a, ?_, h2⟩
  simp only [Value.cells] at h1
  unfold rxV
  rw [← Array.toArray_toList (xs := A), h1]

end Go.Proofs.YtffbachgbcefiaaDoor
