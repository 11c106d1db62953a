/-
  Arguments of layer 20's laws, opened: an act, a list of acts. No condition.
-/
import Derived.Test.YtdfdoinhkjoalaaQuOld
import Derived.Test.YtdfdoinhkjoalaaBufArgs
import Derived.Deep.SlicePairs
namespace Go.Proofs.Ytdfdoinhkjoalaa
open Go.ChangeShapes Go.WideShapes Go.ChangeAt Go.RowKit
set_option linter.unusedVariables false

/-- an act. -/
structure QA where
  b : Int
  d : Nat
  odd : Bool
  out : Bool
def noA : QA := ⟨0, 0, false, false⟩
def acs (a : QA) : List Value := [.int .i64 a.b, .int .u8 (a.d : Int), .bool a.odd, .bool a.out]
def aV (a : QA) : Value := .agg (acs a).toArray
structure AOk (a : QA) : Prop where
  b : (Lit.int .i64 a.b).wf = true
  d : a.d < 256
theorem wf_le {n : Int} (h : (Lit.int .i64 n).wf = true) : -9223372036854775808 ≤ n ∧ n ≤ 9223372036854775807 := by
  simp only [Lit.wf, Bool.and_eq_true, decide_eq_true_eq] at h
  have e1 : IntKind.i64.min = -9223372036854775808 := by decide
  have e2 : IntKind.i64.max = 9223372036854775807 := by decide
  omega
structure Acts (w : World) (v : Value) (L : List QA) : Prop where
  h : ∃ a cap, v = .slice a L.length cap ∧ L.length ≤ cap ∧ cap ≤ 9223372036854775807 ∧ (0 < L.length → ∃ g off, a = some ⟨g, off, none⟩ ∧ ∀ i, i < L.length → w.rangeAt g (off + i * 4) (acs (L.getD i noA)))
  ok : ∀ i, i < L.length → AOk (L.getD i noA)
theorem a_cells {w : World} {g o : Nat} {a : QA} (h : w.rangeAt g o (acs a)) : w.cell? ⟨g, o, none⟩ = some (.int .i64 a.b) ∧ w.cell? ⟨g, o + 1, none⟩ = some (.int .u8 (a.d : Int)) ∧ w.cell? ⟨g, o + 2, none⟩ = some (.bool a.odd) ∧ w.cell? ⟨g, o + 3, none⟩ = some (.bool a.out) :=
  ⟨h 0 _ rfl, h 1 _ rfl, h 2 _ rfl, h 3 _ rfl⟩

section
variable {H : Type} {enc : TypeId × Value → H} {P : Program}
theorem open_act4 {t f0 f1 f2 f3 : TypeId} {W : World} {fuel : Nat} {cs : List Value} {x : DataW H × List MemPlace} (F : Array Field) (hu : P.underlying t = some (.struct F)) (hF : F.toList.map (fun f => (f.type, f.offset)) = [(f0, 0), (f1, 1), (f2, 2), (f3, 3)])
    (c0 : P.cellsOf f0 = 1) (c1 : P.cellsOf f1 = 1) (c2 : P.cellsOf f2 = 1) (c3 : P.cellsOf f3 = 1) (ct : P.cellsOf t = 4)
    (e0 : P.underlying f0 = some (.int .i64)) (e1 : P.underlying f1 = some (.int .u8)) (e2 : P.underlying f2 = some .bool) (e3 : P.underlying f3 = some .bool)
    (h : DataW.trod enc P W 0 (fun _ => true) true fuel t cs = some x) : ∃ a : QA, cs = acs a ∧ AOk a := by
  obtain ⟨xs, k, hk, hxy, hcl, hxl, hff⟩ := DataW.trod_struct hu h
  have hsz : F.toList.length = 4 := by have := congrArg List.length hF; simpa using this
  obtain ⟨Fl⟩ := F
  match Fl, hsz with
  | [g0, g1, g2, g3], _ =>
    simp only [List.map_cons, List.map_nil, List.cons.injEq, Prod.mk.injEq, and_true] at hF
    obtain ⟨⟨rfl, o0⟩, ⟨rfl, o1⟩, ⟨rfl, o2⟩, ⟨rfl, o3⟩⟩ := hF
    have q0 := hff 0 g0 rfl
    have q1 := hff 1 g1 rfl
    have q2 := hff 2 g2 rfl
    have q3 := hff 3 g3 rfl
    rw [ct] at hcl
    match xs, hxl, cs, hcl with
    | [y0, y1, y2, y3], _, [v0, v1, v2, v3], _ =>
      simp [o0, o1, o2, o3, c0, c1, c2, c3] at q0 q1 q2 q3
      obtain ⟨a, ea, _, wa⟩ := DataW.trod_int e0 q0
      obtain ⟨i, ei, _, wi⟩ := DataW.trod_int e1 q1
      obtain ⟨b, eb, _⟩ := DataW.trod_bool e2 q2
      obtain ⟨d, ed, _⟩ := DataW.trod_bool e3 q3
      simp at ea ei eb ed
      subst ea; subst ei; subst eb; subst ed
      have hc2 : 0 ≤ i ∧ i < 256 := by
        have h2 := bounds_u8 wi
        omega
      refine ⟨⟨a, i.toNat, b, d⟩, ?_, ⟨wa, by show i.toNat < 256; omega⟩⟩
      have hi : ((i.toNat : Nat) : Int) = i := Int.toNat_of_nonneg hc2.1
      unfold acs
      simp only [hi]
end

set_option maxRecDepth 100000 in
theorem open_a20 {H : Type} {enc : TypeId × Value → H} {W : World} {r : Reach} {b0 : Nat} {v : Value} {d : DataW H} {ps : List MemPlace} (hval : Value.okWide Try.prog W r b0 29 v) (hd : DataW.Trod enc Try.prog W 0 (fun _ => true) true 29 v d ps) : ∃ a : QA, v = aV a ∧ AOk a := by
  have hp : ∃ A, v = .agg A := by
    simp only [Value.okWide, Try.underlying29] at hval
    obtain ⟨cs, h1, h2, _⟩ := hval
    exact ⟨cs, h1⟩
  obtain ⟨A, rfl⟩ := hp
  obtain ⟨fuel, hf⟩ := hd
  obtain ⟨a, h1, h2⟩ := open_act4 (enc := enc) _ Try.underlying29 rfl (by kernel_rfl) (by kernel_rfl) (by kernel_rfl) (by kernel_rfl) (by kernel_rfl) Try.underlying3 Try.underlying5 Try.underlying4 Try.underlying4 hf
  refine ⟨a, ?_, h2⟩
  simp only [Value.cells] at h1
  unfold aV
  rw [← h1]
set_option maxRecDepth 100000 in
theorem open_as20 {H : Type} {enc : TypeId × Value → H} {W : World} {b0 : Nat} {v : Value} {d : DataW H} {ps : List MemPlace} (hv : Value.okWide Try.prog W .any b0 22 v) (h : DataW.Trod enc Try.prog W 0 (fun _ => true) true 22 v d ps) : ∃ L : List QA, Acts W v L := by
  obtain ⟨a0, len, cap, rfl⟩ := okWide_slice Try.underlying22 hv
  obtain ⟨fuel, hf⟩ := h
  rcases Go.Deep.open_slice Try.underlying22 hf with ⟨hcs, _⟩ | ⟨a, len', cap', m, n, D, Pl, hcs, _, hl, hm, hmm, _, hx⟩
  · simp [Value.cells] at hcs
    obtain ⟨rfl, rfl, rfl⟩ := hcs
    exact ⟨[], ⟨⟨none, 0, rfl, by simp, by omega, fun h => absurd h (by simp)⟩, fun i hi => absurd hi (by simp)⟩⟩
  · simp [Value.cells] at hcs
    obtain ⟨rfl, rfl, rfl⟩ := hcs
    simp only [if_true] at hmm
    have hm2 : cap ≤ 9223372036854775807 := by unfold maxLen at hm; omega
    have ct : Try.prog.cellsOf 29 = 4 := by kernel_rfl
    have each : ∀ i, i < m → ∃ z : QA, AOk z ∧ ∀ j, j < 4 → W.cell? ((a.add (i * 4)).add j) = (acs z)[j]? := fun i hi => by
      obtain ⟨cs', h1, h2⟩ := hx i hi
      rw [ct] at h1
      obtain ⟨_, hlen, hcell⟩ := World.cells?_some h1
      obtain ⟨z, h3, h4⟩ := open_act4 (enc := enc) _ Try.underlying29 rfl (by kernel_rfl) (by kernel_rfl) (by kernel_rfl) (by kernel_rfl) (by kernel_rfl) Try.underlying3 Try.underlying5 Try.underlying4 Try.underlying4 h2
      refine ⟨z, h4, fun j hj => ?_⟩
      rw [← h3]
      exact hcell j (by omega)
    have inh : Inhabited QA := ⟨noA⟩
    obtain ⟨Z, hZ⟩ := Go.Deep.choose_lt each
    have hlen : ((List.range len).map Z).length = len := by simp
    have hat : ∀ i, i < len → ((List.range len).map Z).getD i noA = Z i := fun i hi => by simp [List.getD_eq_getElem?_getD, hi]
    refine ⟨(List.range len).map Z, ⟨⟨some a, cap, by rw [hlen], by rw [hlen]; exact hl, hm2, fun h0 => ?_⟩, fun i hi => ?_⟩⟩
    · rw [hlen] at h0
      obtain ⟨b, off, spot⟩ := a
      have h00 := (hZ 0 (by omega)).2 0 (by omega)
      have hspot : spot = none := by
        have : W.cell? ((Addr.add ⟨b, off, spot⟩ (0 * 4)).add 0) = some (.int .i64 (Z 0).b) := h00
        simpa [Addr.add] using World.cell?_spot this
      subst hspot
      refine ⟨b, off, rfl, fun i hi j u hu => ?_⟩
      rw [hlen] at hi
      rw [hat i hi] at hu
      have hj : j < 4 := by have := (List.getElem?_eq_some_iff.1 hu).1; simpa [acs] using this
      have h1 := (hZ i (by omega)).2 j hj
      rw [Addr.add_mid, Addr.add_mid, hu] at h1
      exact h1
    · rw [hlen] at hi
      rw [hat i hi]
      exact (hZ i (by omega)).1

end Go.Proofs.Ytdfdoinhkjoalaa
