/-
  Arguments of layer 21's laws, opened: acts (as pairs of numbers), numbers. The lowest bits of a number. No condition.
-/
import Derived.Test.YtcmomebjkbhboaaLfUse
import Derived.Test.YtcmomebjkbhboaaBufArgs
import Derived.Deep.SlicePairs
namespace Go.Proofs.Ytcmomebjkbhboaa
open Go.ChangeShapes Go.WideShapes Go.ChangeAt Go.RowKit Plain
set_option linter.unusedVariables false

/-- a list of numbers in memory. -/
structure IlAt (w : World) (a : Option Addr) (b off cap : Nat) (l : List Int) : Prop where
  ha : 0 < l.length → a = some ⟨b, off, none⟩
  le : l.length ≤ cap
  mx : cap ≤ maxLen
  c : ∀ i, i < l.length → w.cell? ⟨b, off + i, none⟩ = some (.int .i64 (l.getD i 0))
def IlIn (w : World) (v : Value) (l : List Int) : Prop := ∃ a b off cap, v = .slice a l.length cap ∧ IlAt w a b off cap l
section
variable {H : Type} {enc : TypeId × Value → H} {P : Program}
theorem open_acts {t e : TypeId} {f0 f1 : Field} {W : World} {base : Nat} {v : Value} {d : DataW H} {ps : List MemPlace} (ht : P.underlying t = some (.slice e)) (he : P.underlying e = some (.struct #[f0, f1])) (ce : P.cellsOf e = 2) (o0 : f0.offset = 0) (o1 : f1.offset = 1) (c0 : P.cellsOf f0.type = 1) (c1 : P.cellsOf f1.type = 1)
    (e0 : P.underlying f0.type = some (.int .i64)) (e1 : P.underlying f1.type = some (.int .i64))
    (hv : Value.okWide P W .any base t v) (h : DataW.Trod enc P W 0 (fun _ => true) true t v d ps) : ∃ l : List Wt, WtIn W v l := by
  obtain ⟨a0, len, cap, rfl⟩ := okWide_slice ht hv
  obtain ⟨fuel, hf⟩ := h
  rcases Go.Deep.open_slice_pairs ht he ce o0 o1 c0 c1 hf with ⟨hcs, _⟩ | ⟨a, len', cap', m, n, V0, V1, D0, D1, P0, P1, hcs, _, hl, hm, hmm, _, hx⟩
  · simp [Value.cells] at hcs
    obtain ⟨rfl, rfl, rfl⟩ := hcs
    exact ⟨[], WtIn.nil W⟩
  · simp [Value.cells] at hcs
    obtain ⟨rfl, rfl, rfl⟩ := hcs
    simp only [if_true] at hmm
    rw [hmm] at hx
    by_cases h0 : len = 0
    · subst h0
      exact ⟨[], _, 0, 0, cap, rfl, ⟨fun h => absurd h (by simp), fun h => (by cases h), by simp, hm, fun i h => absurd h (by simp), fun i h => absurd h (by simp)⟩⟩
    · have hz : ∀ i, i < cap → ∃ z : Wt, V0 i = .int .i64 z.k ∧ V1 i = .int .i64 z.n := fun i hi => by
        obtain ⟨_, _, h2, h3⟩ := hx i hi
        obtain ⟨p, ep, _, _⟩ := DataW.trod_int e0 h2
        obtain ⟨q, eq, _, _⟩ := DataW.trod_int e1 h3
        simp at ep eq
        exact ⟨⟨p, q⟩, ep, eq⟩
      have inh : Inhabited Wt := ⟨wz⟩
      obtain ⟨Z, hZ⟩ := Go.Deep.choose_lt hz
      obtain ⟨b, off, spot⟩ := a
      have hspot : spot = none := by simpa [Addr.add] using World.cell?_spot (hx 0 (by omega)).1
      subst hspot
      have hlen : ((List.range len).map Z).length = len := by simp
      have hat : ∀ i, i < len → ((List.range len).map Z).getD i wz = Z i := fun i hi => by simp [List.getD_eq_getElem?_getD, hi]
      refine ⟨(List.range len).map Z, _, b, off, cap, by rw [hlen], ⟨fun _ => rfl, fun h => (by cases h), by rw [hlen]; exact hl, hm, fun i hi => ?_, fun i hi => ?_⟩⟩
      · rw [hlen] at hi
        rw [hat i hi, ← (hZ i (by omega)).1]
        have := (hx i (by omega)).1
        rwa [Addr.add_lit] at this
      · rw [hlen] at hi
        rw [hat i hi, ← (hZ i (by omega)).2]
        have := (hx i (by omega)).2.1
        rw [Addr.add_lit] at this
        rw [Nat.add_assoc]
        exact this
theorem open_il {t e : TypeId} {W : World} {base : Nat} {v : Value} {d : DataW H} {ps : List MemPlace} (ht : P.underlying t = some (.slice e)) (he : P.underlying e = some (.int .i64)) (hc : P.cellsOf e = 1)
    (hv : Value.okWide P W .any base t v) (h : DataW.Trod enc P W 0 (fun _ => true) true t v d ps) : ∃ l : List Int, IlIn W v l := by
  obtain ⟨a0, len, cap, rfl⟩ := okWide_slice ht hv
  obtain ⟨fuel, hf⟩ := h
  rcases open_ints ht he hc hf with ⟨hcs, _⟩ | ⟨a, len', cap', zs, hcs, _, hl, hm, hz, _, hcell, _⟩
  · simp [Value.cells] at hcs
    obtain ⟨rfl, rfl, rfl⟩ := hcs
    exact ⟨[], none, 0, 0, 0, rfl, ⟨fun h => absurd h (by simp), by simp, by unfold maxLen; omega, fun i h => absurd h (by simp)⟩⟩
  · simp [Value.cells] at hcs
    obtain ⟨rfl, rfl, rfl⟩ := hcs
    simp only [if_true] at hz
    by_cases h0 : len = 0
    · subst h0; exact ⟨[], _, 0, 0, cap, rfl, ⟨fun h => absurd h (by simp), by simp, hm, fun i h => absurd h (by simp)⟩⟩
    · obtain ⟨b, off, spot⟩ := a
      have hspot : spot = none := by simpa [Addr.add] using World.cell?_spot (hcell 0 (by omega))
      subst hspot
      have hlen : (zs.take len).length = len := by rw [List.length_take]; omega
      refine ⟨zs.take len, _, b, off, cap, by rw [hlen], ⟨fun _ => rfl, by rw [hlen]; exact hl, hm, fun i hi => ?_⟩⟩
      rw [hlen] at hi
      have hci := hcell i (by omega)
      have ei : (Addr.add ⟨b, off, none⟩ i) = ⟨b, off + i, none⟩ := by simp [Addr.add]
      rw [ei] at hci
      rw [hci, List.getD_eq_getElem?_getD, List.getD_eq_getElem?_getD, List.getElem?_take_of_lt hi]
end
theorem mask_of (k : Nat) (z : Int) (hz : (BitVec.ofInt 64 z).toNat = 2 ^ k - 1) (hk : 2 ^ k ≤ 2 ^ 62) (hd : (2 ^ k : Nat) ∣ 2 ^ 64) (n : Int) : bits .and .i64 n z = n % ((2 ^ k : Nat) : Int) := by
  have key : (BitVec.ofInt 64 n &&& BitVec.ofInt 64 z).toNat = (n % ((2 ^ 64 : Nat) : Int)).toNat % 2 ^ k := by
    rw [BitVec.toNat_and, BitVec.toNat_ofInt, hz, Nat.and_two_pow_sub_one_eq_mod]
  show IntKind.i64.wrap ((BitVec.ofInt 64 n &&& BitVec.ofInt 64 z).toNat : Nat) = n % ((2 ^ k : Nat) : Int)
  have h0 : 0 < 2 ^ k := Nat.two_pow_pos k
  have e : (((n % ((2 ^ 64 : Nat) : Int)).toNat % 2 ^ k : Nat) : Int) = n % ((2 ^ k : Nat) : Int) := by
    rw [Int.natCast_emod, Int.toNat_of_nonneg (Int.emod_nonneg _ (by decide))]
    exact Int.emod_emod_of_dvd n (Int.natCast_dvd_natCast.2 hd)
  rw [key, e, IntKind.wrap_i64]
  have h1 := Int.emod_nonneg n (b := ((2 ^ k : Nat) : Int)) (by omega)
  have h2 := Int.emod_lt_of_pos n (b := ((2 ^ k : Nat) : Int)) (by omega)
  have h3 : ((2 ^ k : Nat) : Int) ≤ ((2 ^ 62 : Nat) : Int) := by exact_mod_cast hk
  have h4 : ((2 ^ 62 : Nat) : Int) = 4611686018427387904 := by decide
  omega
theorem mask3 (n : Int) : bits .and .i64 n 3 = n % 4 := mask_of 2 3 (by decide) (by decide) (by decide) n
theorem mask63 (n : Int) : bits .and .i64 n 63 = n % 64 := mask_of 6 63 (by decide) (by decide) (by decide) n
theorem mask1023 (n : Int) : bits .and .i64 n 1023 = n % 1024 := mask_of 10 1023 (by decide) (by decide) (by decide) n
theorem open_as21 {H : Type} {enc : TypeId × Value → H} {W : World} {b0 : Nat} {v : Value} {d : DataW H} {ps : List MemPlace} (hv : Value.okWide Try.prog W .any b0 22 v) (h : DataW.Trod enc Try.prog W 0 (fun _ => true) true 22 v d ps) : ∃ L : List Wt, WtIn W v L :=
  open_acts Try.underlying22 Try.underlying29 (by kernel_rfl) rfl rfl (by kernel_rfl) (by kernel_rfl) Try.underlying3 Try.underlying3 hv h
theorem open_ints21 {H : Type} {enc : TypeId × Value → H} {W : World} {b0 : Nat} {v : Value} {d : DataW H} {ps : List MemPlace} (hv : Value.okWide Try.prog W .any b0 43 v) (h : DataW.Trod enc Try.prog W 0 (fun _ => true) true 43 v d ps) : ∃ L : List Int, IlIn W v L :=
  open_il Try.underlying43 Try.underlying3 (by kernel_rfl) hv h
theorem wf_le {n : Int} (h : (Lit.int .i64 n).wf = true) : -9223372036854775808 ≤ n ∧ n ≤ 9223372036854775807 := by
  simp only [Lit.wf, Bool.and_eq_true, decide_eq_true_eq] at h
  have e1 : IntKind.i64.min = -9223372036854775808 := by decide
  have e2 : IntKind.i64.max = 9223372036854775807 := by decide
  omega

end Go.Proofs.Ytcmomebjkbhboaa
