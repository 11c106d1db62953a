/-
  Arguments of layer 24's laws, opened: a list of acts, three numbers. The lowest bits of a number. No condition.
-/
import Derived.Test.YtncdidklgpmefaaDoorCaPut
import Derived.Test.YtncdidklgpmefaaDoorBufArgs
import Derived.Deep.SlicePairs
namespace Go.Proofs.YtncdidklgpmefaaDoor
open Go.ChangeShapes Go.WideShapes Go.ChangeAt Go.RowKit
set_option linter.unusedVariables false

/-- an act. -/
structure A4c where
  d : Int
  k : Int
  c : Int
  b : Nat
  o : Bool
def noA : A4c := ⟨0, 0, 0, 0, false⟩
def acs (a : A4c) : List Value := [.int .i64 a.d, .int .i64 a.k, .int .i64 a.c, .int .u8 (a.b : Int), .bool a.o]
structure AOk (a : A4c) : Prop where
  d : iOk a.d
  k : iOk a.k
  c : iOk a.c
  b : a.b < 256
theorem wf_le {n : Int} (h : (Lit.int .i64 n).wf = true) : -9223372036854775808 ≤ n ∧ n ≤ 9223372036854775807 := by
  simp only [Lit.wf, Bool.and_eq_true, decide_eq_true_eq] at h
  have e1 : IntKind.i64.min = -9223372036854775808 := by decide
  have e2 : IntKind.i64.max = 9223372036854775807 := by decide
  omega
structure Acts (w : World) (v : Value) (L : List A4c) : Prop where
  h : ∃ a cap, v = .slice a L.length cap ∧ L.length ≤ cap ∧ cap ≤ 9223372036854775807 ∧ (0 < L.length → ∃ g off, a = some ⟨g, off, none⟩ ∧ ∀ i, i < L.length → w.rangeAt g (off + i * 5) (acs (L.getD i noA)))
  ok : ∀ i, i < L.length → AOk (L.getD i noA)
theorem a_cells {w : World} {g o : Nat} {a : A4c} (h : w.rangeAt g o (acs a)) : w.cell? ⟨g, o, none⟩ = some (.int .i64 a.d) ∧ w.cell? ⟨g, o + 1, none⟩ = some (.int .i64 a.k) ∧ w.cell? ⟨g, o + 2, none⟩ = some (.int .i64 a.c) ∧ w.cell? ⟨g, o + 3, none⟩ = some (.int .u8 (a.b : Int)) ∧ w.cell? ⟨g, o + 4, none⟩ = some (.bool a.o) :=
  ⟨h 0 _ rfl, h 1 _ rfl, h 2 _ rfl, h 3 _ rfl, h 4 _ rfl⟩
theorem Acts.kept {w w' : World} {v : Value} {L : List A4c} (h : Acts w v L) (k : Kp w w') : Acts w' v L := by
  obtain ⟨⟨a, cap, rfl, h1, h2, h3⟩, hok⟩ := h
  refine ⟨⟨a, cap, rfl, h1, h2, fun h0 => ?_⟩, hok⟩
  obtain ⟨g, off, rfl, h⟩ := h3 h0
  exact ⟨g, off, rfl, fun i hi j u hu => k.held (h i hi j u hu)⟩
/-- what a law wants of its list of acts. -/
theorem Acts.open {w : World} {v : Value} {L : List A4c} (h : Acts w v L) : ∃ pa pg po pc ln, v = .slice pa ln pc ∧ ln ≤ pc ∧ pc ≤ 9223372036854775807 ∧ (0 < ln → pa = some ⟨pg, po, none⟩) ∧ ∀ V, Kp w V → ∀ i, i < ln → (V.cell? ⟨pg, po + i * 5, none⟩ = some (.int .i64 (L.getD i noA).d) ∧ V.cell? ⟨pg, po + i * 5 + 1, none⟩ = some (.int .i64 (L.getD i noA).k) ∧ V.cell? ⟨pg, po + i * 5 + 2, none⟩ = some (.int .i64 (L.getD i noA).c) ∧ V.cell? ⟨pg, po + i * 5 + 3, none⟩ = some (.int .u8 ((L.getD i noA).b : Int)) ∧ V.cell? ⟨pg, po + i * 5 + 4, none⟩ = some (.bool (L.getD i noA).o)) ∧ AOk (L.getD i noA) := by
  obtain ⟨⟨pa, pc, rfl, h1, h2, h3⟩, hok⟩ := h
  by_cases h0 : 0 < L.length
  · obtain ⟨g, off, rfl, h⟩ := h3 h0
    refine ⟨_, g, off, pc, _, rfl, h1, h2, fun _ => rfl, fun V k i hi => ⟨?_, hok i hi⟩⟩
    have := a_cells (h i hi)
    exact ⟨k.held this.1, k.held this.2.1, k.held this.2.2.1, k.held this.2.2.2.1, k.held this.2.2.2.2⟩
  · exact ⟨pa, 0, 0, pc, _, rfl, h1, h2, fun h => absurd h h0, fun V k i hi => absurd hi (by omega)⟩

section
variable {H : Type} {enc : TypeId × Value → H} {P : Program}
theorem open_act5 {t f0 f1 f2 f3 f4 : TypeId} {W : World} {fuel : Nat} {cs : List Value} {x : DataW H × List MemPlace} (F : Array Field) (hu : P.underlying t = some (.struct F)) (hF : F.toList.map (fun f => (f.type, f.offset)) = [(f0, 0), (f1, 1), (f2, 2), (f3, 3), (f4, 4)])
    (c0 : P.cellsOf f0 = 1) (c1 : P.cellsOf f1 = 1) (c2 : P.cellsOf f2 = 1) (c3 : P.cellsOf f3 = 1) (c4 : P.cellsOf f4 = 1) (ct : P.cellsOf t = 5)
    (e0 : P.underlying f0 = some (.int .i64)) (e1 : P.underlying f1 = some (.int .i64)) (e2 : P.underlying f2 = some (.int .i64)) (e3 : P.underlying f3 = some (.int .u8)) (e4 : P.underlying f4 = some .bool)
    (h : DataW.trod enc P W 0 (fun _ => true) true fuel t cs = some x) : ∃ a : A4c, cs = acs a ∧ AOk a := by
  obtain ⟨xs, k, hk, hxy, hcl, hxl, hff⟩ := DataW.trod_struct hu h
  have hsz : F.toList.length = 5 := by have := congrArg List.length hF; simpa using this
  obtain ⟨Fl⟩ := F
  match Fl, hsz with
  | [g0, g1, g2, g3, g4], _ =>
    simp only [List.map_cons, List.map_nil, List.cons.injEq, Prod.mk.injEq, and_true] at hF
    obtain ⟨⟨rfl, o0⟩, ⟨rfl, o1⟩, ⟨rfl, o2⟩, ⟨rfl, o3⟩, ⟨rfl, o4⟩⟩ := hF
    have q0 := hff 0 g0 rfl
    have q1 := hff 1 g1 rfl
    have q2 := hff 2 g2 rfl
    have q3 := hff 3 g3 rfl
    have q4 := hff 4 g4 rfl
    rw [ct] at hcl
    match xs, hxl, cs, hcl with
    | [y0, y1, y2, y3, y4], _, [v0, v1, v2, v3, v4], _ =>
      simp [o0, o1, o2, o3, o4, c0, c1, c2, c3, c4] at q0 q1 q2 q3 q4
      obtain ⟨a, ea, _, wa⟩ := DataW.trod_int e0 q0
      obtain ⟨i, ei, _, wi⟩ := DataW.trod_int e1 q1
      obtain ⟨c, ec, _, wc⟩ := DataW.trod_int e2 q2
      obtain ⟨u, eu, _, wu⟩ := DataW.trod_int e3 q3
      obtain ⟨b, eb, _⟩ := DataW.trod_bool e4 q4
      simp at ea ei ec eu eb
      subst ea; subst ei; subst ec; subst eu; subst eb
      have hc2 : 0 ≤ u ∧ u < 256 := by
        have h2 := bounds_u8 wu
        omega
      refine ⟨⟨a, i, c, u.toNat, b⟩, ?_, ⟨wf_le wa, wf_le wi, wf_le wc, by show u.toNat < 256; omega⟩⟩
      have hi : ((u.toNat : Nat) : Int) = u := Int.toNat_of_nonneg hc2.1
      unfold acs
      simp only [hi]
theorem open_ints3 {k e : TypeId} {W : World} {r : Reach} {b0 base : Nat} {sp : Nat → Bool} {held : Bool} {v : Value} {d : DataW H} {ps : List MemPlace} (hu : P.underlying k = some (.array 3 e)) (he : P.underlying e = some (.int .i64)) (hone : P.cellsOf e = 1) (hsize : P.cellsOf k = 3)
    (hval : Value.okWide P W r b0 k v) (hd : DataW.Trod enc P W base sp held k v d ps) : ∃ a b c : Int, v = .agg #[.int .i64 a, .int .i64 b, .int .i64 c] ∧ (Lit.int .i64 a).wf = true ∧ (Lit.int .i64 b).wf = true ∧ (Lit.int .i64 c).wf = true := by
  have hp : ∃ c0 c1 c2, v = .agg #[c0, c1, c2] := by
    simp only [Value.okWide, hu] at hval
    obtain ⟨cs, h1, h2, _⟩ := hval
    rw [hsize] at h2
    obtain ⟨l⟩ := cs
    match l, h2 with
    | [c0, c1, c2], _ => exact ⟨c0, c1, c2, h1⟩
  obtain ⟨c0, c1, c2, rfl⟩ := hp
  obtain ⟨fuel, hf⟩ := hd
  cases fuel with
  | zero => simp [DataW.trod] at hf
  | succ n =>
    rw [DataW.trod_step] at hf
    unfold DataW.trodStep at hf
    simp only [hu, Value.cells] at hf
    rw [if_pos (by rw [hsize]; rfl)] at hf
    simp only [Option.map_eq_some_iff] at hf
    obtain ⟨xs, hx, e1⟩ := hf
    rw [show List.range 3 = [0, 1, 2] from rfl, List.mapM_cons, List.mapM_cons, List.mapM_cons, List.mapM_nil] at hx
    simp only [bind, Option.bind_eq_some_iff, pure, Option.some.injEq, hone] at hx
    obtain ⟨y0, h0, _, ⟨y1, h1, _, ⟨y2, h2, _, rfl, rfl⟩, rfl⟩, rfl⟩ := hx
    obtain ⟨a, ea, rfl, wa⟩ := DataW.trod_int he h0
    obtain ⟨b, eb, rfl, wb⟩ := DataW.trod_int he h1
    obtain ⟨c, ec, rfl, wc⟩ := DataW.trod_int he h2
    simp at ea eb ec
    subst ea; subst eb; subst ec
    exact ⟨a, b, c, rfl, wa, wb, wc⟩
end
set_option maxRecDepth 100000 in
theorem open_as24 {H : Type} {enc : TypeId × Value → H} {W : World} {b0 : Nat} {v : Value} {d : DataW H} {ps : List MemPlace} (hv : Value.okWide Tryd.prog W .any b0 23 v) (h : DataW.Trod enc Tryd.prog W 0 (fun _ => true) true 23 v d ps) : ∃ L : List A4c, Acts W v L := by
  obtain ⟨a0, len, cap, rfl⟩ := okWide_slice Tryd.underlying23 hv
  obtain ⟨fuel, hf⟩ := h
  rcases Go.Deep.open_slice Tryd.underlying23 hf with ⟨hcs, _⟩ | ⟨a, len', cap', m, n, D, Pl, hcs, _, hl, hm, hmm, _, hx⟩
  · simp [Value.cells] at hcs
    obtain ⟨rfl, rfl, rfl⟩ := hcs
    exact ⟨[], ⟨⟨none, 0, rfl, by simp, by omega, fun h => absurd h (by simp)⟩, fun i hi => absurd hi (by simp)⟩⟩
  · simp [Value.cells] at hcs
    obtain ⟨rfl, rfl, rfl⟩ := hcs
    simp only [if_true] at hmm
    have hm2 : cap ≤ 9223372036854775807 := by unfold maxLen at hm; omega
    have ct : Tryd.prog.cellsOf 39 = 5 := by kernel_rfl
    have each : ∀ i, i < m → ∃ z : A4c, AOk z ∧ ∀ j, j < 5 → W.cell? ((a.add (i * 5)).add j) = (acs z)[j]? := fun i hi => by
      obtain ⟨cs', h1, h2⟩ := hx i hi
      rw [ct] at h1
      obtain ⟨_, hlen, hcell⟩ := World.cells?_some h1
      obtain ⟨z, h3, h4⟩ := open_act5 (enc := enc) _ Tryd.underlying39 rfl (by kernel_rfl) (by kernel_rfl) (by kernel_rfl) (by kernel_rfl) (by kernel_rfl) (by kernel_rfl) Tryd.underlying3 Tryd.underlying3 Tryd.underlying3 Tryd.underlying5 Tryd.underlying4 h2
      refine ⟨z, h4, fun j hj => ?_⟩
      rw [← h3]
      exact hcell j (by omega)
    have inh : Inhabited A4c := ⟨noA⟩
    obtain ⟨Z, hZ⟩ := Go.Deep.choose_lt each
    have hlen : ((List.range len).map Z).length = len := by simp
    have hat : ∀ i, i < len → ((List.range len).map Z).getD i noA = Z i := fun i hi => by simp [List.getD_eq_getElem?_getD, hi]
    refine ⟨(List.range len).map Z, ⟨⟨some a, cap, by rw [hlen], by rw [hlen]; exact hl, hm2, fun h0 => ?_⟩, fun i hi => ?_⟩⟩
    · rw [hlen] at h0
      obtain ⟨b, off, spot⟩ := a
      have h00 := (hZ 0 (by omega)).2 0 (by omega)
      have hspot : spot = none := by
        have : W.cell? ((Addr.add ⟨b, off, spot⟩ (0 * 5)).add 0) = some (.int .i64 (Z 0).d) := h00
        simpa [Addr.add] using World.cell?_spot this
      subst hspot
      refine ⟨b, off, rfl, fun i hi j u hu => ?_⟩
      rw [hlen] at hi
      rw [hat i hi] at hu
      have hj : j < 5 := by have := (List.getElem?_eq_some_iff.1 hu).1; simpa [acs] using this
      have h1 := (hZ i (by omega)).2 j hj
      rw [Addr.add_mid, Addr.add_mid, hu] at h1
      exact h1
    · rw [hlen] at hi
      rw [hat i hi]
      exact (hZ i (by omega)).1
theorem mask_of (k : Nat) (z : Int) (hz : (BitVec.ofInt 64 z).toNat = 2 ^ k - 1) (hk : 2 ^ k ≤ 2 ^ 62) (hd : (2 ^ k : Nat) ∣ 2 ^ 64) (n : Int) : bits .and .i64 n z = n % ((2 ^ k : Nat) : Int) := by
  have key : (BitVec.ofInt 64 n &&& BitVec.ofInt 64 z).toNat = (n % ((2 ^ 64 : Nat) : Int)).toNat % 2 ^ k := by
    rw [BitVec.toNat_and, BitVec.toNat_ofInt, hz, Nat.and_two_pow_sub_one_eq_mod]
  show IntKind.i64.wrap ((BitVec.ofInt 64 n &&& BitVec.ofInt 64 z).toNat : Nat) = n % ((2 ^ k : Nat) : Int)
  have h0 : 0 < 2 ^ k := Nat.two_pow_pos k
  have e : (((n % ((2 ^ 64 : Nat) : Int)).toNat % 2 ^ k : Nat) : Int) = n % ((2 ^ k : Nat) : Int) := by
    rw [Int.natCast_emod, Int.toNat_of_nonneg (Int.emod_nonneg _ (by decide))]
    exact Int.emod_emod_of_dvd n (Int.natCast_dvd_natCast.2 hd)
  rw [key, e, IntKind.wrap_i64]
  have h1 := Int.emod_nonneg n (b := ((2 ^ k : Nat) : Int)) (by omega)
  have h2 := Int.emod_lt_of_pos n (b := ((2 ^ k : Nat) : Int)) (by omega)
  have h3 : ((2 ^ k : Nat) : Int) ≤ ((2 ^ 62 : Nat) : Int) := by exact_mod_cast hk
  have h4 : ((2 ^ 62 : Nat) : Int) = 4611686018427387904 := by decide
  omega
theorem mask7 (n : Int) : bits .and .i64 n 7 = n % 8 := mask_of 3 7 (by decide) (by decide) (by decide) n
theorem mask3 (n : Int) : bits .and .i64 n 3 = n % 4 := mask_of 2 3 (by decide) (by decide) (by decide) n
theorem mask15 (n : Int) : bits .and .i64 n 15 = n % 16 := mask_of 4 15 (by decide) (by decide) (by decide) n

end Go.Proofs.YtncdidklgpmefaaDoor
