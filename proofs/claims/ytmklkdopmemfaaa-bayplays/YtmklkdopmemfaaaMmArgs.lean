/-
  Arguments of layer 10's laws, opened: words, an act, a list of acts. No condition.
-/
import Derived.Test.YtmklkdopmemfaaaMmLaw
import Derived.Test.YtmklkdopmemfaaaBufArgs
import Derived.Deep.SlicePairs
namespace Go.Proofs.Ytmklkdopmemfaaa
open Go.ChangeShapes Go.WideShapes Go.ChangeAt Go.RowKit Plain
set_option linter.unusedVariables false

/-- an act. -/
structure AC where
  op : Int
  at_ : Int
  data : Nat
  odd : Bool
  kv : Value
  ks : List Nat
/-- an act's cells. -/
def acs (a : AC) : List Value := [.int .i64 a.op, .int .i64 a.at_, .int .u8 (a.data : Int), .bool a.odd, a.kv]
def aV (a : AC) : Value := .agg (acs a).toArray
structure AOk (w : World) (a : AC) : Prop where
  w1 : (Lit.int .i64 a.op).wf = true
  w2 : (Lit.int .i64 a.at_).wf = true
  d : a.data < 256
  k : KeIn w a.kv a.ks
def noA : AC := ⟨0, 0, 0, false, .slice none 0 0, []⟩
structure ActsIn (w : World) (v : Value) (L : List AC) : Prop where
  h : ∃ a cap, v = .slice a L.length cap ∧ L.length ≤ cap ∧ cap ≤ 9223372036854775807 ∧ (0 < L.length → ∃ g off, a = some ⟨g, off, none⟩ ∧ ∀ i, i < L.length → w.rangeAt g (off + i * 5) (acs (L.getD i noA)))
  ok : ∀ i, i < L.length → AOk w (L.getD i noA)
theorem AOk.kp {w w' : World} {a : AC} (h : AOk w a) (k : Kp w w') : AOk w' a := ⟨h.w1, h.w2, h.d, h.k.kp k⟩
theorem ActsIn.kp {w w' : World} {v : Value} {L : List AC} (h : ActsIn w v L) (k : Kp w w') : ActsIn w' v L := by
  obtain ⟨a, cap, rfl, h1, h2, h3⟩ := h.h
  refine ⟨⟨a, cap, rfl, h1, h2, fun h0 => ?_⟩, fun i hi => (h.ok i hi).kp k⟩
  obtain ⟨g, off, rfl, h4⟩ := h3 h0
  exact ⟨g, off, rfl, fun i hi => (k.sp []).range (h4 i hi) (by simp)⟩

section
variable {H : Type} {enc : TypeId × Value → H} {P : Program}
theorem open_words {t e : TypeId} {W : World} {fuel : Nat} {v : Value} {x : DataW H × List MemPlace} (ht : P.underlying t = some (.slice e)) (he : P.underlying e = some (.int .u64)) (hc : P.cellsOf e = 1)
    (hf : DataW.trod enc P W 0 (fun _ => true) true fuel t [v] = some x) : ∃ ks : List Nat, KeIn W v ks := by
  rcases open_ints ht he hc hf with ⟨hcs, _⟩ | ⟨a, len, cap, zs, hcs, _, hl, hm, hz, _, hcell, hwf⟩
  · simp at hcs
    subst hcs
    exact ⟨[], ⟨⟨none, 0, rfl, by simp, by omega, fun h => absurd h (by simp)⟩, fun y hy => (by cases hy)⟩⟩
  · simp at hcs
    subst hcs
    simp only [if_true] at hz
    have hm2 : cap ≤ 9223372036854775807 := by unfold maxLen at hm; omega
    have hlen : ((zs.take len).map Int.toNat).length = len := by rw [List.length_map, List.length_take]; omega
    have hin : ∀ i, i < len → 0 ≤ zs.getD i 0 ∧ zs.getD i 0 < 18446744073709551616 := fun i hi => by
      have hi2 : i < zs.length := by omega
      have h1 := hwf (zs.getD i 0) (by rw [List.getD_eq_getElem?_getD, List.getElem?_eq_getElem hi2]; exact List.getElem_mem hi2)
      have h2 := bounds_u64 h1
      omega
    have hat : ∀ i, i < len → ((((zs.take len).map Int.toNat).getD i 0 : Nat) : Int) = zs.getD i 0 := fun i hi => by
      have h1 := hin i hi
      rw [List.getD_eq_getElem?_getD, List.getElem?_map, List.getElem?_take_of_lt hi]
      rw [List.getD_eq_getElem?_getD] at h1 ⊢
      rw [List.getElem?_eq_getElem (by omega)] at h1 ⊢
      simp at h1 ⊢
      omega
    refine ⟨(zs.take len).map Int.toNat, ⟨⟨some a, cap, by rw [hlen], by rw [hlen]; omega, hm2, fun h0 => ?_⟩, fun y hy => ?_⟩⟩
    · rw [hlen] at h0
      obtain ⟨b, off, spot⟩ := a
      have hspot : spot = none := by simpa [Addr.add] using World.cell?_spot (hcell 0 (by omega))
      subst hspot
      refine ⟨b, off, rfl, fun i hi => ?_⟩
      rw [hlen] at hi
      have hci := hcell i (by omega)
      have ei : (Addr.add ⟨b, off, none⟩ i) = ⟨b, off + i, none⟩ := by simp [Addr.add]
      rw [ei] at hci
      rw [hci, hat i hi]
    · obtain ⟨z, hz1, rfl⟩ := List.mem_map.1 hy
      obtain ⟨i, hi, rfl⟩ := List.getElem_of_mem hz1
      have hi2 : i < len := by rw [List.length_take] at hi; omega
      have h1 := hin i hi2
      rw [List.getElem_take]
      rw [List.getD_eq_getElem?_getD, List.getElem?_eq_getElem (by omega)] at h1
      simp at h1
      omega
theorem open_act5 {t f0 f1 f2 f3 f4 : TypeId} {W : World} {fuel : Nat} {cs : List Value} {x : DataW H × List MemPlace} (F : Array Field) (hu : P.underlying t = some (.struct F)) (hF : F.toList.map (fun f => (f.type, f.offset)) = [(f0, 0), (f1, 1), (f2, 2), (f3, 3), (f4, 4)])
    (c0 : P.cellsOf f0 = 1) (c1 : P.cellsOf f1 = 1) (c2 : P.cellsOf f2 = 1) (c3 : P.cellsOf f3 = 1) (c4 : P.cellsOf f4 = 1) (ct : P.cellsOf t = 5)
    (e0 : P.underlying f0 = some (.int .i64)) (e1 : P.underlying f1 = some (.int .i64)) (e2 : P.underlying f2 = some (.int .u8)) (e3 : P.underlying f3 = some .bool) (e : TypeId) (e4 : P.underlying f4 = some (.slice e)) (e5 : P.underlying e = some (.int .u64)) (c5 : P.cellsOf e = 1)
    (h : DataW.trod enc P W 0 (fun _ => true) true fuel t cs = some x) : ∃ a : AC, cs = acs a ∧ AOk W a := by
  obtain ⟨xs, k, hk, hxy, hcl, hxl, hff⟩ := DataW.trod_struct hu h
  have hsz : F.toList.length = 5 := by have := congrArg List.length hF; simpa using this
  obtain ⟨Fl⟩ := F
  match Fl, hsz with
  | [g0, g1, g2, g3, g4], _ =>
    simp only [List.map_cons, List.map_nil, List.cons.injEq, Prod.mk.injEq, and_true] at hF
    obtain ⟨⟨rfl, o0⟩, ⟨rfl, o1⟩, ⟨rfl, o2⟩, ⟨rfl, o3⟩, ⟨rfl, o4⟩⟩ := hF
    have q0 := hff 0 g0 rfl
    have q1 := hff 1 g1 rfl
    have q2 := hff 2 g2 rfl
    have q3 := hff 3 g3 rfl
    have q4 := hff 4 g4 rfl
    rw [ct] at hcl
    match xs, hxl, cs, hcl with
    | [y0, y1, y2, y3, y4], _, [v0, v1, v2, v3, v4], _ =>
      simp [o0, o1, o2, o3, o4, c0, c1, c2, c3, c4] at q0 q1 q2 q3 q4
      obtain ⟨a, ea, _, wa⟩ := DataW.trod_int e0 q0
      obtain ⟨b, eb, _, wb⟩ := DataW.trod_int e1 q1
      obtain ⟨c, ec, _, wc⟩ := DataW.trod_int e2 q2
      obtain ⟨d, ed, _⟩ := DataW.trod_bool e3 q3
      obtain ⟨ks, hks⟩ := open_words e4 e5 c5 q4
      simp at ea eb ec ed
      subst ea; subst eb; subst ec; subst ed
      have hc2 : 0 ≤ c ∧ c < 256 := by
        have h2 := bounds_u8 wc
        omega
      refine ⟨⟨a, b, c.toNat, d, v4, ks⟩, ?_, ⟨wa, wb, by show c.toNat < 256; omega, hks⟩⟩
      show _ = [Value.int .i64 a, Value.int .i64 b, Value.int .u8 ((c.toNat : Nat) : Int), Value.bool d, v4]
      rw [show ((c.toNat : Nat) : Int) = c by omega]
end

set_option maxRecDepth 100000 in
theorem open_kept {H : Type} {enc : TypeId × Value → H} {W : World} {b0 : Nat} {v : Value} {d : DataW H} {ps : List MemPlace} (hv : Value.okWide Try.prog W .any b0 110 v) (h : DataW.Trod enc Try.prog W 0 (fun _ => true) true 110 v d ps) : ∃ ks : List Nat, KeIn W v ks := by
  obtain ⟨a0, len, cap, rfl⟩ := okWide_slice Try.underlying110 hv
  obtain ⟨fuel, hf⟩ := h
  exact open_words Try.underlying110 Try.underlying138 (by kernel_rfl) hf

end Go.Proofs.Ytmklkdopmemfaaa
