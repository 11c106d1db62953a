/-
  A list of pairs as an argument; a new reader beside the document's bay. Conditions: that they lie in memory.
-/
import Derived.Test.YtonooelffokfkaaGreatDoorZRwPair
import Derived.Test.YtonooelffokfkaaGreatDoorZSet
import Derived.OpenShut
import Derived.Deep.Slices
namespace Go.Proofs.YtonooelffokfkaaGreatDoor
open Go.ChangeShapes Go.WideShapes Go.ChangeAt Go.RowKit Plain
set_option linter.unusedVariables false

/-- a list of pairs of numbers in memory. -/
def PrIn (w : World) (v : Value) (l : List (Int × Int)) : Prop := ∃ a g off cap, v = .slice a l.length cap ∧ l.length ≤ cap ∧ cap ≤ maxLen ∧ (0 < l.length → a = some ⟨g, off, none⟩) ∧ ∀ i, i < l.length → w.cell? ⟨g, off + i * 2, none⟩ = some (.int .i64 (l.getD i (0, 0)).1) ∧ w.cell? ⟨g, off + i * 2 + 1, none⟩ = some (.int .i64 (l.getD i (0, 0)).2) ∧ (Lit.int .i64 (l.getD i (0, 0)).1).wf = true ∧ (Lit.int .i64 (l.getD i (0, 0)).2).wf = true

section
variable {H : Type} {enc : TypeId × Value → H} {P : Program}
theorem open_prs {t e k : TypeId} {W : World} {base : Nat} {v : Value} {d : DataW H} {ps : List MemPlace} (ht : P.underlying t = some (.slice e)) (he : P.underlying e = some (.array 2 k)) (hk : P.underlying k = some (.int .i64)) (ck : P.cellsOf k = 1) (ce : P.cellsOf e = 2)
    (hv : Value.okWide P W .any base t v) (h : DataW.Trod enc P W 0 (fun _ => true) true t v d ps) : ∃ l : List (Int × Int), PrIn W v l := by
  obtain ⟨a0, len, cap, rfl⟩ := okWide_slice ht hv
  obtain ⟨fuel, hf⟩ := h
  rcases Go.Deep.open_slice ht hf with ⟨hcs, _⟩ | ⟨a, len', cap', m, n, D, Pl, hcs, _, hl, hm, hmm, _, hx⟩
  · simp [Value.cells] at hcs
    obtain ⟨rfl, rfl, rfl⟩ := hcs
    exact ⟨[], none, 0, 0, 0, rfl, Nat.le_refl _, by unfold maxLen; omega, fun h => absurd h (by simp), fun i h => absurd h (by simp)⟩
  · simp [Value.cells] at hcs
    obtain ⟨rfl, rfl, rfl⟩ := hcs
    simp only [if_true] at hmm
    rw [hmm] at hx
    by_cases h0 : len = 0
    · subst h0
      exact ⟨[], _, 0, 0, cap, rfl, by simp, hm, fun h => absurd h (by simp), fun i h => absurd h (by simp)⟩
    · have hz : ∀ i, i < cap → ∃ z : Int × Int, W.cell? (a.add (i * 2)) = some (.int .i64 z.1) ∧ W.cell? (a.add (i * 2 + 1)) = some (.int .i64 z.2) ∧ (Lit.int .i64 z.1).wf = true ∧ (Lit.int .i64 z.2).wf = true := fun i hi => by
        obtain ⟨cs', h1, h2⟩ := hx i hi
        rw [ce] at h1
        obtain ⟨_, hlen, hcell⟩ := World.cells?_some h1
        obtain ⟨xs, m', _, _, _, hxl, hff⟩ := DataW.trod_array he h2
        have g0 := hff 0 (by omega)
        have g1 := hff 1 (by omega)
        rw [ck] at g0 g1
        match cs', hlen with
        | [v0, v1], _ =>
          match xs, hxl with
          | [y0, y1], _ =>
            simp at g0 g1
            obtain ⟨p, ep, _, wp⟩ := DataW.trod_int hk g0
            obtain ⟨q, eq, _, wq⟩ := DataW.trod_int hk g1
            simp at ep eq
            subst ep; subst eq
            have e0 := hcell 0 (by omega)
            have e1 := hcell 1 (by omega)
            rw [Go.Deep.add_add] at e0 e1
            exact ⟨(p, q), by simpa using e0, by simpa using e1, wp, wq⟩
      obtain ⟨Z, hZ⟩ := Go.Deep.choose_lt hz
      obtain ⟨b, off, spot⟩ := a
      have hspot : spot = none := by simpa [Addr.add] using World.cell?_spot (hZ 0 (by omega)).1
      subst hspot
      have hlen : ((List.range len).map Z).length = len := by simp
      have hat : ∀ i, i < len → ((List.range len).map Z).getD i (0, 0) = Z i := fun i hi => by simp [List.getD_eq_getElem?_getD, hi]
      refine ⟨(List.range len).map Z, _, b, off, cap, by rw [hlen], by rw [hlen]; exact hl, hm, fun _ => rfl, fun i hi => ?_⟩
      rw [hlen] at hi
      rw [hat i hi]
      obtain ⟨c0, c1, w0, w1⟩ := hZ i (by omega)
      rw [Addr.add_lit] at c0 c1
      exact ⟨c0, by rw [Nat.add_assoc]; exact c1, w0, w1⟩
end
theorem PrIn.kept {w w' : World} {v : Value} {l : List (Int × Int)} (h : PrIn w v l) (k : Kp w w') : PrIn w' v l := by
  obtain ⟨a, g, off, cap, h1, h2, h3, h4, h5⟩ := h
  exact ⟨a, g, off, cap, h1, h2, h3, h4, fun i hi => ⟨k.held (h5 i hi).1, k.held (h5 i hi).2.1, (h5 i hi).2.2⟩⟩

set_option maxRecDepth 100000 in
set_option maxHeartbeats 2000000 in
theorem rp_new {W w : World} {b y : Nat} {T R : List Nat} {B : BS} (h : Bw W w b T B) (d : Dw W w y R B) (dj : Dj T R) (K : Kp W w) : Calls Tryz.prog 23 #[.pointer (some ⟨b, 0, none⟩)] w fun e w' => ∃ r f g F, e = .returned (.pointer (some ⟨r, 0, none⟩)) ∧ Rp W w' r b f g y 0 B F ∧ Kp w w' := by
  have hF := fnew_any w
  have HB := hid h
  have HD := hid d
  have HJ := hid dj
  have HK := hid K
  clear h K d dj
  go_enter Tryz.func23, Tryz.ntmps23
  go_wp2_with fail
  refine hF.mono ?_; rintro e w1 ⟨f, g, rfl, f1, k1, q1, q2⟩
  have HF := hid f1
  have HK1 := hid k1
  clear hF f1 k1
  go_wp2
  go_ret
  have kk : Kp w1 (w1.alloc (.cells #[.pointer (some ⟨b, 0, none⟩), .pointer (some ⟨f, 0, none⟩)] 173)) := (Kp.refl w1).alloc _
  have lo := OL.bw.low HB.out
  have lo2 := OL.dw.low HD.out
  have s0 := HK.out.size
  have s1 := HK1.out.size
  refine ⟨_, f, g, _, rfl, ⟨T, R, B, B, fun _ => 0, ⟨by simp, by simp, by simp, OL.bw.sp HB.out ((HK1.out.trans kk).sp []) (fun _ _ h => by cases h), HF.out.kp kk, fun ht => ?_, fun ht => ?_, fun ht => ?_, ?_, ?_, ?_, ?_, ?_⟩, OL.dw.sp HD.out ((HK1.out.trans kk).sp []) (fun _ _ h => by cases h), fun t ht hm => ?_, Sm.refl B, Sm.refl B, fun j hj => ⟨show (0 : Int) ≤ 0 by omega, show (0 : Int) ≤ ((0 : Nat) : Int) by omega⟩, rfl⟩, HK1.out.trans kk⟩
  · have := lo _ ht; omega
  · have := lo _ ht; omega
  · have := lo _ ht; omega
  · have := HF.out.hf; omega
  · have := HF.out.hb; omega
  · omega
  · omega
  · omega
  · have := lo2 t hm
    simp only [List.mem_cons] at ht
    rcases ht with rfl | rfl | rfl | ht
    · omega
    · omega
    · omega
    · exact HJ.out t ht hm

theorem mask3w (n : Int) : bits .and .i64 n 3 = n % 4 := by
  have h : (BitVec.ofInt 64 3).toNat = 2 ^ 2 - 1 := by decide
  have key : (BitVec.ofInt 64 n &&& BitVec.ofInt 64 3).toNat = (n % ((2 ^ 64 : Nat) : Int)).toNat % 2 ^ 2 := by
    rw [BitVec.toNat_and, BitVec.toNat_ofInt, h, Nat.and_two_pow_sub_one_eq_mod]
  show IntKind.i64.wrap ((BitVec.ofInt 64 n &&& BitVec.ofInt 64 3).toNat : Nat) = n % 4
  rw [key, IntKind.wrap_i64]
  omega
theorem mask1w (n : Int) : bits .and .i64 n 1 = n % 2 := by
  have h : (BitVec.ofInt 64 1).toNat = 2 ^ 1 - 1 := by decide
  have key : (BitVec.ofInt 64 n &&& BitVec.ofInt 64 1).toNat = (n % ((2 ^ 64 : Nat) : Int)).toNat % 2 ^ 1 := by
    rw [BitVec.toNat_and, BitVec.toNat_ofInt, h, Nat.and_two_pow_sub_one_eq_mod]
  show IntKind.i64.wrap ((BitVec.ofInt 64 n &&& BitVec.ofInt 64 1).toNat : Nat) = n % 2
  rw [key, IntKind.wrap_i64]
  omega

end Go.Proofs.YtonooelffokfkaaGreatDoor
