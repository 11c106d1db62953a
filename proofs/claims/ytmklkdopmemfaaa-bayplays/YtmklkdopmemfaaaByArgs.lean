/-
  Arguments of layer 11's laws, opened: lists of words, an act, a list of acts. No condition.
-/
import Derived.Test.YtmklkdopmemfaaaByWakes
namespace Go.Proofs.Ytmklkdopmemfaaa
open Go.ChangeShapes Go.WideShapes Go.ChangeAt Go.RowKit Plain
set_option linter.unusedVariables false

def noK : Value × List Nat := (.slice none 0 0, [])
/-- lists of words as they came in. -/
structure KL (w : World) (v : Value) (K : List (Value × List Nat)) : Prop where
  h : ∃ a cap, v = .slice a K.length cap ∧ K.length ≤ cap ∧ cap ≤ 9223372036854775807 ∧ (0 < K.length → ∃ g off, a = some ⟨g, off, none⟩ ∧ ∀ i, i < K.length → w.cell? ⟨g, off + i, none⟩ = some (K.getD i noK).1)
  k : ∀ i, i < K.length → KeIn w (K.getD i noK).1 (K.getD i noK).2
  c : ∀ i, i < K.length → ∀ a n c, (K.getD i noK).1 = .slice a n c → n ≤ c
theorem KL.kp {w w' : World} {v : Value} {K : List (Value × List Nat)} (h : KL w v K) (k : Kp w w') : KL w' v K := by
  obtain ⟨a, cap, rfl, h1, h2, h3⟩ := h.h
  refine ⟨⟨a, cap, rfl, h1, h2, fun h0 => ?_⟩, fun i hi => (h.k i hi).kp k, h.c⟩
  obtain ⟨g, off, rfl, h4⟩ := h3 h0
  exact ⟨g, off, rfl, fun i hi => k.held (h4 i hi)⟩
/-- an act. -/
structure A6 where
  op : Int
  i_ : Int
  at_ : Int
  data : Nat
  odd : Bool
  kv : Value
  K : List (Value × List Nat)
def a6cs (a : A6) : List Value := [.int .i64 a.op, .int .i64 a.i_, .int .i64 a.at_, .int .u8 (a.data : Int), .bool a.odd, a.kv]
def a6V (a : A6) : Value := .agg (a6cs a).toArray
structure A6Ok (w : World) (a : A6) : Prop where
  w1 : (Lit.int .i64 a.op).wf = true
  w2 : (Lit.int .i64 a.i_).wf = true
  w3 : (Lit.int .i64 a.at_).wf = true
  d : a.data < 256
  k : KL w a.kv a.K
def noA6 : A6 := ⟨0, 0, 0, 0, false, .slice none 0 0, []⟩
structure Acts6 (w : World) (v : Value) (L : List A6) : Prop where
  h : ∃ a cap, v = .slice a L.length cap ∧ L.length ≤ cap ∧ cap ≤ 9223372036854775807 ∧ (0 < L.length → ∃ g off, a = some ⟨g, off, none⟩ ∧ ∀ i, i < L.length → w.rangeAt g (off + i * 6) (a6cs (L.getD i noA6)))
  ok : ∀ i, i < L.length → A6Ok w (L.getD i noA6)
theorem A6Ok.kp {w w' : World} {a : A6} (h : A6Ok w a) (k : Kp w w') : A6Ok w' a := ⟨h.w1, h.w2, h.w3, h.d, h.k.kp k⟩
theorem Acts6.kp {w w' : World} {v : Value} {L : List A6} (h : Acts6 w v L) (k : Kp w w') : Acts6 w' v L := by
  obtain ⟨a, cap, rfl, h1, h2, h3⟩ := h.h
  refine ⟨⟨a, cap, rfl, h1, h2, fun h0 => ?_⟩, fun i hi => (h.ok i hi).kp k⟩
  obtain ⟨g, off, rfl, h4⟩ := h3 h0
  exact ⟨g, off, rfl, fun i hi => (k.sp []).range (h4 i hi) (by simp)⟩
theorem a6_cells {w : World} {g o : Nat} {a : A6} (h : w.rangeAt g o (a6cs a)) : w.cell? ⟨g, o, none⟩ = some (.int .i64 a.op) ∧ w.cell? ⟨g, o + 1, none⟩ = some (.int .i64 a.i_) ∧ w.cell? ⟨g, o + 2, none⟩ = some (.int .i64 a.at_) ∧ w.cell? ⟨g, o + 3, none⟩ = some (.int .u8 (a.data : Int)) ∧ w.cell? ⟨g, o + 4, none⟩ = some (.bool a.odd) ∧ w.cell? ⟨g, o + 5, none⟩ = some a.kv :=
  ⟨h 0 _ rfl, h 1 _ rfl, h 2 _ rfl, h 3 _ rfl, h 4 _ rfl, h 5 _ rfl⟩
theorem Acts6.take {w : World} {v : Value} {L : List A6} (h : Acts6 w v L) (m : Nat) (hm : m ≤ L.length) : ∃ a cap, v = .slice a L.length cap ∧ L.length ≤ cap ∧ cap ≤ 9223372036854775807 ∧ (0 < m → ∃ g off, a = some ⟨g, off, none⟩ ∧ ∀ i, i < m → w.rangeAt g (off + i * 6) (a6cs (L.getD i noA6))) := by
  obtain ⟨a, cap, rfl, h1, h2, h3⟩ := h.h
  refine ⟨a, cap, rfl, h1, h2, fun h0 => ?_⟩
  obtain ⟨g, off, rfl, h4⟩ := h3 (by omega)
  exact ⟨g, off, rfl, fun i hi => h4 i (by omega)⟩

section
variable {H : Type} {enc : TypeId × Value → H} {P : Program}
theorem open_words2 {t e : TypeId} {W : World} {fuel : Nat} {v : Value} {x : DataW H × List MemPlace} (ht : P.underlying t = some (.slice e)) (he : P.underlying e = some (.int .u64)) (hc : P.cellsOf e = 1)
    (hf : DataW.trod enc P W 0 (fun _ => true) true fuel t [v] = some x) : ∃ ks : List Nat, KeIn W v ks ∧ ∀ a n c, v = .slice a n c → n ≤ c := by
  obtain ⟨ks, hk⟩ := open_words ht he hc hf
  refine ⟨ks, hk, fun a n c e => ?_⟩
  subst e
  rcases open_ints ht he hc hf with ⟨hcs, _⟩ | ⟨a', len, cap, zs, hcs, _, hl, hm, hz, _, hcell, hwf⟩
  · simp at hcs
    omega
  · simp at hcs
    obtain ⟨_, rfl, rfl⟩ := hcs
    exact hl
theorem open_lists {t e f : TypeId} {W : World} {fuel : Nat} {v : Value} {x : DataW H × List MemPlace} (ht : P.underlying t = some (.slice e)) (he : P.underlying e = some (.slice f)) (hf : P.underlying f = some (.int .u64)) (ce : P.cellsOf e = 1) (cf : P.cellsOf f = 1)
    (h : DataW.trod enc P W 0 (fun _ => true) true fuel t [v] = some x) : ∃ K : List (Value × List Nat), KL W v K := by
  rcases Go.Deep.open_slice ht h with ⟨hcs, _⟩ | ⟨a, len, cap, m, n, D, Pl, hcs, _, hl, hm, hmm, _, hx⟩
  · simp at hcs
    subst hcs
    exact ⟨[], ⟨⟨none, 0, rfl, by simp, by omega, fun h => absurd h (by simp)⟩, fun i hi => absurd hi (by simp), fun i hi => absurd hi (by simp)⟩⟩
  · simp at hcs
    subst hcs
    simp only [if_true] at hmm
    have hm2 : cap ≤ 9223372036854775807 := by unfold maxLen at hm; omega
    have each : ∀ i, i < m → ∃ z : Value × List Nat, W.cell? (a.add i) = some z.1 ∧ KeIn W z.1 z.2 ∧ ∀ a n c, z.1 = .slice a n c → n ≤ c := fun i hi => by
      obtain ⟨cs', h1, h2⟩ := hx i hi
      rw [ce, Nat.mul_one] at h1
      obtain ⟨_, hlen, hcell⟩ := World.cells?_some h1
      match cs', hlen with
      | [u], _ =>
        obtain ⟨ks, h3, h4⟩ := open_words2 he hf cf h2
        refine ⟨(u, ks), ?_, h3, h4⟩
        have := hcell 0 (by omega)
        simpa [Addr.add] using this
    have inh : Inhabited (Value × List Nat) := ⟨noK⟩
    obtain ⟨Z, hZ⟩ := Go.Deep.choose_lt each
    have hlen : ((List.range len).map Z).length = len := by simp
    have hat : ∀ i, i < len → ((List.range len).map Z).getD i noK = Z i := fun i hi => by simp [List.getD_eq_getElem?_getD, hi]
    refine ⟨(List.range len).map Z, ⟨⟨some a, cap, by rw [hlen], by rw [hlen]; exact hl, hm2, fun h0 => ?_⟩, fun i hi => ?_, fun i hi => ?_⟩⟩
    · rw [hlen] at h0
      obtain ⟨b, off, spot⟩ := a
      have h00 := (hZ 0 (by omega)).1
      have hspot : spot = none := by simpa [Addr.add] using World.cell?_spot h00
      subst hspot
      refine ⟨b, off, rfl, fun i hi => ?_⟩
      rw [hlen] at hi
      rw [hat i hi]
      have h1 := (hZ i (by omega)).1
      rw [Addr.add_mid] at h1
      exact h1
    · rw [hlen] at hi
      rw [hat i hi]
      exact (hZ i (by omega)).2.1
    · rw [hlen] at hi
      rw [hat i hi]
      exact (hZ i (by omega)).2.2
theorem open_act6 {t f0 f1 f2 f3 f4 f5 : TypeId} {W : World} {fuel : Nat} {cs : List Value} {x : DataW H × List MemPlace} (F : Array Field) (hu : P.underlying t = some (.struct F)) (hF : F.toList.map (fun f => (f.type, f.offset)) = [(f0, 0), (f1, 1), (f2, 2), (f3, 3), (f4, 4), (f5, 5)])
    (c0 : P.cellsOf f0 = 1) (c1 : P.cellsOf f1 = 1) (c2 : P.cellsOf f2 = 1) (c3 : P.cellsOf f3 = 1) (c4 : P.cellsOf f4 = 1) (c5 : P.cellsOf f5 = 1) (ct : P.cellsOf t = 6)
    (e0 : P.underlying f0 = some (.int .i64)) (e1 : P.underlying f1 = some (.int .i64)) (e2 : P.underlying f2 = some (.int .i64)) (e3 : P.underlying f3 = some (.int .u8)) (e4 : P.underlying f4 = some .bool) (e f : TypeId) (e5 : P.underlying f5 = some (.slice e)) (e6 : P.underlying e = some (.slice f)) (e7 : P.underlying f = some (.int .u64)) (c6 : P.cellsOf e = 1) (c7 : P.cellsOf f = 1)
    (h : DataW.trod enc P W 0 (fun _ => true) true fuel t cs = some x) : ∃ a : A6, cs = a6cs a ∧ A6Ok W a := by
  obtain ⟨xs, k, hk, hxy, hcl, hxl, hff⟩ := DataW.trod_struct hu h
  have hsz : F.toList.length = 6 := by have := congrArg List.length hF; simpa using this
  obtain ⟨Fl⟩ := F
  match Fl, hsz with
  | [g0, g1, g2, g3, g4, g5], _ =>
    simp only [List.map_cons, List.map_nil, List.cons.injEq, Prod.mk.injEq, and_true] at hF
    obtain ⟨⟨rfl, o0⟩, ⟨rfl, o1⟩, ⟨rfl, o2⟩, ⟨rfl, o3⟩, ⟨rfl, o4⟩, ⟨rfl, o5⟩⟩ := hF
    have q0 := hff 0 g0 rfl
    have q1 := hff 1 g1 rfl
    have q2 := hff 2 g2 rfl
    have q3 := hff 3 g3 rfl
    have q4 := hff 4 g4 rfl
    have q5 := hff 5 g5 rfl
    rw [ct] at hcl
    match xs, hxl, cs, hcl with
    | [y0, y1, y2, y3, y4, y5], _, [v0, v1, v2, v3, v4, v5], _ =>
      simp [o0, o1, o2, o3, o4, o5, c0, c1, c2, c3, c4, c5] at q0 q1 q2 q3 q4 q5
      obtain ⟨a, ea, _, wa⟩ := DataW.trod_int e0 q0
      obtain ⟨i, ei, _, wi⟩ := DataW.trod_int e1 q1
      obtain ⟨b, eb, _, wb⟩ := DataW.trod_int e2 q2
      obtain ⟨c, ec, _, wc⟩ := DataW.trod_int e3 q3
      obtain ⟨d, ed, _⟩ := DataW.trod_bool e4 q4
      obtain ⟨K, hK⟩ := open_lists e5 e6 e7 c6 c7 q5
      simp at ea ei eb ec ed
      subst ea; subst ei; subst eb; subst ec; subst ed
      have hc2 : 0 ≤ c ∧ c < 256 := by
        have h2 := bounds_u8 wc
        omega
      refine ⟨⟨a, i, b, c.toNat, d, v5, K⟩, ?_, ⟨wa, wi, wb, by show c.toNat < 256; omega, hK⟩⟩
      show _ = [Value.int .i64 a, Value.int .i64 i, Value.int .i64 b, Value.int .u8 ((c.toNat : Nat) : Int), Value.bool d, v5]
      rw [show ((c.toNat : Nat) : Int) = c by omega]
end

set_option maxRecDepth 100000 in
theorem open_a6 {H : Type} {enc : TypeId × Value → H} {W : World} {r : Reach} {b0 : Nat} {v : Value} {d : DataW H} {ps : List MemPlace} (hval : Value.okWide Try.prog W r b0 31 v) (hd : DataW.Trod enc Try.prog W 0 (fun _ => true) true 31 v d ps) : ∃ a : A6, v = a6V a ∧ A6Ok W a := by
  have hp : ∃ A, v = .agg A := by
    simp only [Value.okWide, Try.underlying31] at hval
    obtain ⟨cs, h1, h2, _⟩ := hval
    exact ⟨cs, h1⟩
  obtain ⟨A, rfl⟩ := hp
  obtain ⟨fuel, hf⟩ := hd
  obtain ⟨a, h1, h2⟩ := open_act6 (enc := enc) _ Try.underlying31 rfl (by kernel_rfl) (by kernel_rfl) (by kernel_rfl) (by kernel_rfl) (by kernel_rfl) (by kernel_rfl) (by kernel_rfl) Try.underlying3 Try.underlying3 Try.underlying3 Try.underlying5 Try.underlying4 110 138 Try.underlying29 Try.underlying110 Try.underlying138 (by kernel_rfl) (by kernel_rfl) hf
  refine ⟨a, ?_, h2⟩
  simp only [Value.cells] at h1
  unfold a6V
  rw [← h1]
set_option maxRecDepth 100000 in
theorem open_as6 {H : Type} {enc : TypeId × Value → H} {W : World} {b0 : Nat} {v : Value} {d : DataW H} {ps : List MemPlace} (hv : Value.okWide Try.prog W .any b0 22 v) (h : DataW.Trod enc Try.prog W 0 (fun _ => true) true 22 v d ps) : ∃ L : List A6, Acts6 W v L := by
  obtain ⟨a0, len, cap, rfl⟩ := okWide_slice Try.underlying22 hv
  obtain ⟨fuel, hf⟩ := h
  rcases Go.Deep.open_slice Try.underlying22 hf with ⟨hcs, _⟩ | ⟨a, len', cap', m, n, D, Pl, hcs, _, hl, hm, hmm, _, hx⟩
  · simp [Value.cells] at hcs
    obtain ⟨rfl, rfl, rfl⟩ := hcs
    exact ⟨[], ⟨⟨none, 0, rfl, by simp, by omega, fun h => absurd h (by simp)⟩, fun i hi => absurd hi (by simp)⟩⟩
  · simp [Value.cells] at hcs
    obtain ⟨rfl, rfl, rfl⟩ := hcs
    simp only [if_true] at hmm
    have hm2 : cap ≤ 9223372036854775807 := by unfold maxLen at hm; omega
    have ct : Try.prog.cellsOf 31 = 6 := by kernel_rfl
    have each : ∀ i, i < m → ∃ z : A6, A6Ok W z ∧ ∀ j, j < 6 → W.cell? ((a.add (i * 6)).add j) = (a6cs z)[j]? := fun i hi => by
      obtain ⟨cs', h1, h2⟩ := hx i hi
      rw [ct] at h1
      obtain ⟨_, hlen, hcell⟩ := World.cells?_some h1
      obtain ⟨z, h3, h4⟩ := open_act6 (enc := enc) _ Try.underlying31 rfl (by kernel_rfl) (by kernel_rfl) (by kernel_rfl) (by kernel_rfl) (by kernel_rfl) (by kernel_rfl) (by kernel_rfl) Try.underlying3 Try.underlying3 Try.underlying3 Try.underlying5 Try.underlying4 110 138 Try.underlying29 Try.underlying110 Try.underlying138 (by kernel_rfl) (by kernel_rfl) h2
      refine ⟨z, h4, fun j hj => ?_⟩
      rw [← h3]
      exact hcell j (by omega)
    have inh : Inhabited A6 := ⟨noA6⟩
    obtain ⟨Z, hZ⟩ := Go.Deep.choose_lt each
    have hlen : ((List.range len).map Z).length = len := by simp
    have hat : ∀ i, i < len → ((List.range len).map Z).getD i noA6 = Z i := fun i hi => by simp [List.getD_eq_getElem?_getD, hi]
    refine ⟨(List.range len).map Z, ⟨⟨some a, cap, by rw [hlen], by rw [hlen]; exact hl, hm2, fun h0 => ?_⟩, fun i hi => ?_⟩⟩
    · rw [hlen] at h0
      obtain ⟨b, off, spot⟩ := a
      have h00 := (hZ 0 (by omega)).2 0 (by omega)
      have hspot : spot = none := by
        have : W.cell? ((Addr.add ⟨b, off, spot⟩ (0 * 6)).add 0) = some (.int .i64 (Z 0).op) := h00
        simpa [Addr.add] using World.cell?_spot this
      subst hspot
      refine ⟨b, off, rfl, fun i hi j u hu => ?_⟩
      rw [hlen] at hi
      rw [hat i hi] at hu
      have hj : j < 6 := by have := (List.getElem?_eq_some_iff.1 hu).1; simpa [a6cs] using this
      have h1 := (hZ i (by omega)).2 j hj
      rw [Addr.add_mid, Addr.add_mid, hu] at h1
      exact h1
    · rw [hlen] at hi
      rw [hat i hi]
      exact (hZ i (by omega)).1

end Go.Proofs.Ytmklkdopmemfaaa
