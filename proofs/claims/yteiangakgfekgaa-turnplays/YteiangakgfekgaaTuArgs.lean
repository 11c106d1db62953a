/-
  Arguments of layer 23's laws, opened: a list of acts. The lowest bits of a number; a remainder by 7 as the laws take it. No condition.
-/
import Derived.Test.YteiangakgfekgaaTuUse
import Derived.Test.YteiangakgfekgaaBufArgs
import Derived.Deep.SlicePairs
namespace Go.Proofs.Yteiangakgfekgaa
open Go.ChangeShapes Go.WideShapes Go.ChangeAt Go.RowKit
set_option linter.unusedVariables false

/-- an act. -/
structure A3 where
  d : Int
  k : Int
  on : Bool
def no3 : A3 := ⟨0, 0, false⟩
def acs (a : A3) : List Value := [.int .i64 a.d, .int .i64 a.k, .bool a.on]
theorem wf_le {n : Int} (h : (Lit.int .i64 n).wf = true) : -9223372036854775808 ≤ n ∧ n ≤ 9223372036854775807 := by
  simp only [Lit.wf, Bool.and_eq_true, decide_eq_true_eq] at h
  have e1 : IntKind.i64.min = -9223372036854775808 := by decide
  have e2 : IntKind.i64.max = 9223372036854775807 := by decide
  omega
structure Acts (w : World) (v : Value) (L : List A3) : Prop where
  h : ∃ a cap, v = .slice a L.length cap ∧ L.length ≤ cap ∧ cap ≤ 9223372036854775807 ∧ (0 < L.length → ∃ g off, a = some ⟨g, off, none⟩ ∧ ∀ i, i < L.length → w.rangeAt g (off + i * 3) (acs (L.getD i no3)))
  ok : ∀ i, i < L.length → iOk (L.getD i no3).d ∧ iOk (L.getD i no3).k
theorem a_cells {w : World} {g o : Nat} {a : A3} (h : w.rangeAt g o (acs a)) : w.cell? ⟨g, o, none⟩ = some (.int .i64 a.d) ∧ w.cell? ⟨g, o + 1, none⟩ = some (.int .i64 a.k) ∧ w.cell? ⟨g, o + 2, none⟩ = some (.bool a.on) :=
  ⟨h 0 _ rfl, h 1 _ rfl, h 2 _ rfl⟩
theorem Acts.kept {w w' : World} {v : Value} {L : List A3} (h : Acts w v L) (k : Kp w w') : Acts w' v L := by
  obtain ⟨⟨a, cap, rfl, h1, h2, h3⟩, hok⟩ := h
  refine ⟨⟨a, cap, rfl, h1, h2, fun h0 => ?_⟩, hok⟩
  obtain ⟨g, off, rfl, h⟩ := h3 h0
  exact ⟨g, off, rfl, fun i hi j u hu => k.held (h i hi j u hu)⟩
/-- what a law wants of its list of acts. -/
theorem Acts.open {w : World} {v : Value} {L : List A3} (h : Acts w v L) : ∃ pa pg po pc ln, v = .slice pa ln pc ∧ ln ≤ pc ∧ pc ≤ 9223372036854775807 ∧ (0 < ln → pa = some ⟨pg, po, none⟩) ∧ ∀ V, Kp w V → ∀ i, i < ln → (V.cell? ⟨pg, po + i * 3, none⟩ = some (.int .i64 (L.getD i no3).d) ∧ V.cell? ⟨pg, po + i * 3 + 1, none⟩ = some (.int .i64 (L.getD i no3).k) ∧ V.cell? ⟨pg, po + i * 3 + 2, none⟩ = some (.bool (L.getD i no3).on)) ∧ iOk (L.getD i no3).d ∧ iOk (L.getD i no3).k := by
  obtain ⟨⟨pa, pc, rfl, h1, h2, h3⟩, hok⟩ := h
  by_cases h0 : 0 < L.length
  · obtain ⟨g, off, rfl, h⟩ := h3 h0
    refine ⟨_, g, off, pc, _, rfl, h1, h2, fun _ => rfl, fun V k i hi => ⟨?_, hok i hi⟩⟩
    have := a_cells (h i hi)
    exact ⟨k.held this.1, k.held this.2.1, k.held this.2.2⟩
  · exact ⟨pa, 0, 0, pc, _, rfl, h1, h2, fun h => absurd h h0, fun V k i hi => absurd hi (by omega)⟩

section
variable {H : Type} {enc : TypeId × Value → H} {P : Program}
theorem open_act3 {t f0 f1 f2 : TypeId} {W : World} {fuel : Nat} {cs : List Value} {x : DataW H × List MemPlace} (F : Array Field) (hu : P.underlying t = some (.struct F)) (hF : F.toList.map (fun f => (f.type, f.offset)) = [(f0, 0), (f1, 1), (f2, 2)])
    (c0 : P.cellsOf f0 = 1) (c1 : P.cellsOf f1 = 1) (c2 : P.cellsOf f2 = 1) (ct : P.cellsOf t = 3)
    (e0 : P.underlying f0 = some (.int .i64)) (e1 : P.underlying f1 = some (.int .i64)) (e2 : P.underlying f2 = some .bool)
    (h : DataW.trod enc P W 0 (fun _ => true) true fuel t cs = some x) : ∃ a : A3, cs = acs a ∧ iOk a.d ∧ iOk a.k := by
  obtain ⟨xs, k, hk, hxy, hcl, hxl, hff⟩ := DataW.trod_struct hu h
  have hsz : F.toList.length = 3 := by have := congrArg List.length hF; simpa using this
  obtain ⟨Fl⟩ := F
  match Fl, hsz with
  | [g0, g1, g2], _ =>
    simp only [List.map_cons, List.map_nil, List.cons.injEq, Prod.mk.injEq, and_true] at hF
    obtain ⟨⟨rfl, o0⟩, ⟨rfl, o1⟩, ⟨rfl, o2⟩⟩ := hF
    have q0 := hff 0 g0 rfl
    have q1 := hff 1 g1 rfl
    have q2 := hff 2 g2 rfl
    rw [ct] at hcl
    match xs, hxl, cs, hcl with
    | [y0, y1, y2], _, [v0, v1, v2], _ =>
      simp [o0, o1, o2, c0, c1, c2] at q0 q1 q2
      obtain ⟨a, ea, _, wa⟩ := DataW.trod_int e0 q0
      obtain ⟨i, ei, _, wi⟩ := DataW.trod_int e1 q1
      obtain ⟨b, eb, _⟩ := DataW.trod_bool e2 q2
      simp at ea ei eb
      subst ea; subst ei; subst eb
      exact ⟨⟨a, i, b⟩, rfl, wf_le wa, wf_le wi⟩
end
set_option maxRecDepth 100000 in
theorem open_as23 {H : Type} {enc : TypeId × Value → H} {W : World} {b0 : Nat} {v : Value} {d : DataW H} {ps : List MemPlace} (hv : Value.okWide Try.prog W .any b0 22 v) (h : DataW.Trod enc Try.prog W 0 (fun _ => true) true 22 v d ps) : ∃ L : List A3, Acts W v L := by
  obtain ⟨a0, len, cap, rfl⟩ := okWide_slice Try.underlying22 hv
  obtain ⟨fuel, hf⟩ := h
  rcases Go.Deep.open_slice Try.underlying22 hf with ⟨hcs, _⟩ | ⟨a, len', cap', m, n, D, Pl, hcs, _, hl, hm, hmm, _, hx⟩
  · simp [Value.cells] at hcs
    obtain ⟨rfl, rfl, rfl⟩ := hcs
    exact ⟨[], ⟨⟨none, 0, rfl, by simp, by omega, fun h => absurd h (by simp)⟩, fun i hi => absurd hi (by simp)⟩⟩
  · simp [Value.cells] at hcs
    obtain ⟨rfl, rfl, rfl⟩ := hcs
    simp only [if_true] at hmm
    have hm2 : cap ≤ 9223372036854775807 := by unfold maxLen at hm; omega
    have ct : Try.prog.cellsOf 37 = 3 := by kernel_rfl
    have each : ∀ i, i < m → ∃ z : A3, (iOk z.d ∧ iOk z.k) ∧ ∀ j, j < 3 → W.cell? ((a.add (i * 3)).add j) = (acs z)[j]? := fun i hi => by
      obtain ⟨cs', h1, h2⟩ := hx i hi
      rw [ct] at h1
      obtain ⟨_, hlen, hcell⟩ := World.cells?_some h1
      obtain ⟨z, h3, h4⟩ := open_act3 (enc := enc) _ Try.underlying37 rfl (by kernel_rfl) (by kernel_rfl) (by kernel_rfl) (by kernel_rfl) Try.underlying3 Try.underlying3 Try.underlying4 h2
      refine ⟨z, h4, fun j hj => ?_⟩
      rw [← h3]
      exact hcell j (by omega)
    have inh : Inhabited A3 := ⟨no3⟩
    obtain ⟨Z, hZ⟩ := Go.Deep.choose_lt each
    have hlen : ((List.range len).map Z).length = len := by simp
    have hat : ∀ i, i < len → ((List.range len).map Z).getD i no3 = Z i := fun i hi => by simp [List.getD_eq_getElem?_getD, hi]
    refine ⟨(List.range len).map Z, ⟨⟨some a, cap, by rw [hlen], by rw [hlen]; exact hl, hm2, fun h0 => ?_⟩, fun i hi => ?_⟩⟩
    · rw [hlen] at h0
      obtain ⟨b, off, spot⟩ := a
      have h00 := (hZ 0 (by omega)).2 0 (by omega)
      have hspot : spot = none := by
        have : W.cell? ((Addr.add ⟨b, off, spot⟩ (0 * 3)).add 0) = some (.int .i64 (Z 0).d) := h00
        simpa [Addr.add] using World.cell?_spot this
      subst hspot
      refine ⟨b, off, rfl, fun i hi j u hu => ?_⟩
      rw [hlen] at hi
      rw [hat i hi] at hu
      have hj : j < 3 := by have := (List.getElem?_eq_some_iff.1 hu).1; simpa [acs] using this
      have h1 := (hZ i (by omega)).2 j hj
      rw [Addr.add_mid, Addr.add_mid, hu] at h1
      exact h1
    · rw [hlen] at hi
      rw [hat i hi]
      exact (hZ i (by omega)).1
theorem mask_of (k : Nat) (z : Int) (hz : (BitVec.ofInt 64 z).toNat = 2 ^ k - 1) (hk : 2 ^ k ≤ 2 ^ 62) (hd : (2 ^ k : Nat) ∣ 2 ^ 64) (n : Int) : bits .and .i64 n z = n % ((2 ^ k : Nat) : Int) := by
  have key : (BitVec.ofInt 64 n &&& BitVec.ofInt 64 z).toNat = (n % ((2 ^ 64 : Nat) : Int)).toNat % 2 ^ k := by
    rw [BitVec.toNat_and, BitVec.toNat_ofInt, hz, Nat.and_two_pow_sub_one_eq_mod]
  show IntKind.i64.wrap ((BitVec.ofInt 64 n &&& BitVec.ofInt 64 z).toNat : Nat) = n % ((2 ^ k : Nat) : Int)
  have h0 : 0 < 2 ^ k := Nat.two_pow_pos k
  have e : (((n % ((2 ^ 64 : Nat) : Int)).toNat % 2 ^ k : Nat) : Int) = n % ((2 ^ k : Nat) : Int) := by
    rw [Int.natCast_emod, Int.toNat_of_nonneg (Int.emod_nonneg _ (by decide))]
    exact Int.emod_emod_of_dvd n (Int.natCast_dvd_natCast.2 hd)
  rw [key, e, IntKind.wrap_i64]
  have h1 := Int.emod_nonneg n (b := ((2 ^ k : Nat) : Int)) (by omega)
  have h2 := Int.emod_lt_of_pos n (b := ((2 ^ k : Nat) : Int)) (by omega)
  have h3 : ((2 ^ k : Nat) : Int) ≤ ((2 ^ 62 : Nat) : Int) := by exact_mod_cast hk
  have h4 : ((2 ^ 62 : Nat) : Int) = 4611686018427387904 := by decide
  omega
theorem mask31 (n : Int) : bits .and .i64 n 31 = n % 32 := mask_of 5 31 (by decide) (by decide) (by decide) n
/-- (d%7 + 7) % 7, as the machine reckons it. -/
theorem rem7 (d : Int) : ∃ r m, d.tmod 7 = r ∧ -7 < r ∧ r < 7 ∧ (r + 7).tmod 7 = m ∧ 0 ≤ m ∧ m < 7 := by
  have h1 := Int.tmod_lt_of_pos d (show (0 : Int) < 7 by omega)
  have h3 := Int.tmod_lt_of_pos (-d) (show (0 : Int) < 7 by omega)
  rw [Int.neg_tmod] at h3
  have h2 : -7 < d.tmod 7 := by omega
  refine ⟨_, _, rfl, h2, h1, rfl, ?_, ?_⟩
  · rw [Int.tmod_eq_emod_of_nonneg (by omega)]; exact Int.emod_nonneg _ (by omega)
  · exact Int.tmod_lt_of_pos _ (by omega)

end Go.Proofs.Yteiangakgfekgaa
