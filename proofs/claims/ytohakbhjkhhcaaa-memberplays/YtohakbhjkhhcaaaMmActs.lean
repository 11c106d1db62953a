/-
  A list of acts as an argument, opened, with the room of each one's words. No condition.
-/
import Derived.Test.YtohakbhjkhhcaaaMmSet
import Derived.Test.YtohakbhjkhhcaaaMmAct
import Derived.Test.YtohakbhjkhhcaaaMmSame
namespace Go.Proofs.Ytohakbhjkhhcaaa
open Go.ChangeShapes Go.WideShapes Go.ChangeAt Go.RowKit Plain
set_option linter.unusedVariables false

section
variable {H : Type} {enc : TypeId × Value → H} {P : Program}
theorem act5_cap {t f0 f1 f2 f3 f4 : TypeId} {W : World} {fuel : Nat} {cs : List Value} {x : DataW H × List MemPlace} (F : Array Field) (hu : P.underlying t = some (.struct F)) (hF : F.toList.map (fun f => (f.type, f.offset)) = [(f0, 0), (f1, 1), (f2, 2), (f3, 3), (f4, 4)])
    (c4 : P.cellsOf f4 = 1) (ct : P.cellsOf t = 5) (e : TypeId) (e4 : P.underlying f4 = some (.slice e)) (e5 : P.underlying e = some (.int .u64)) (c5 : P.cellsOf e = 1)
    (h : DataW.trod enc P W 0 (fun _ => true) true fuel t cs = some x) : ∀ a n c, cs[4]? = some (.slice a n c) → n ≤ c := by
  obtain ⟨xs, k, hk, hxy, hcl, hxl, hff⟩ := DataW.trod_struct hu h
  have hsz : F.toList.length = 5 := by have := congrArg List.length hF; simpa using this
  obtain ⟨Fl⟩ := F
  match Fl, hsz with
  | [g0, g1, g2, g3, g4], _ =>
    simp only [List.map_cons, List.map_nil, List.cons.injEq, Prod.mk.injEq, and_true] at hF
    obtain ⟨⟨rfl, o0⟩, ⟨rfl, o1⟩, ⟨rfl, o2⟩, ⟨rfl, o3⟩, ⟨rfl, o4⟩⟩ := hF
    have q4 := hff 4 g4 rfl
    rw [ct] at hcl
    match xs, hxl, cs, hcl with
    | [y0, y1, y2, y3, y4], _, [v0, v1, v2, v3, v4], _ =>
      simp [o4, c4] at q4
      intro a n c hv
      simp at hv
      subst hv
      rcases open_ints e4 e5 c5 q4 with ⟨hcs, _⟩ | ⟨a', len, cap, zs, hcs, _, hl, hm, hz, _, hcell, hwf⟩
      · simp at hcs
        omega
      · simp at hcs
        obtain ⟨_, rfl, rfl⟩ := hcs
        exact hl
end
set_option maxRecDepth 100000 in
theorem open_acts2 {H : Type} {enc : TypeId × Value → H} {W : World} {b0 : Nat} {v : Value} {d : DataW H} {ps : List MemPlace} (hv : Value.okWide Try.prog W .any b0 22 v) (h : DataW.Trod enc Try.prog W 0 (fun _ => true) true 22 v d ps) : ∃ L : List AC, ActsIn W v L ∧ ∀ i, i < L.length → ∀ a n c, (L.getD i noA).kv = .slice a n c → n ≤ c := by
  obtain ⟨L, hL⟩ := open_acts hv h
  refine ⟨L, hL, fun i hi a n c hk => ?_⟩
  obtain ⟨fuel, hf⟩ := h
  obtain ⟨a1, cap1, rfl, h1, h2, h3⟩ := hL.h
  obtain ⟨g, off, rfl, h4⟩ := h3 (by omega)
  rcases Go.Deep.open_slice Try.underlying22 hf with ⟨hcs, _⟩ | ⟨a', len', cap', m, n', D, Pl, hcs, _, hl, hm, hmm, _, hx⟩
  · simp [Value.cells] at hcs
  · simp [Value.cells] at hcs
    obtain ⟨rfl, hln, hcp⟩ := hcs
    simp only [if_true] at hmm
    obtain ⟨cs', z1, z2⟩ := hx i (by omega)
    have ct : Try.prog.cellsOf 31 = 5 := by kernel_rfl
    rw [ct] at z1
    obtain ⟨_, hlen, hcell⟩ := World.cells?_some z1
    refine act5_cap (enc := enc) _ Try.underlying31 rfl (by kernel_rfl) ct 54 Try.underlying29 Try.underlying54 (by kernel_rfl) z2 a n c ?_
    have h5 := hcell 4 (by omega)
    rw [Addr.add_mid, Addr.add_mid] at h5
    rw [← h5, ← hk]
    exact h4 i hi 4 _ rfl

end Go.Proofs.Ytohakbhjkhhcaaa
