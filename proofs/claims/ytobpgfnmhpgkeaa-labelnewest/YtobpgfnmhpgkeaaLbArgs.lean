/-
  Arguments of layer 12's laws, opened: labels as plain data, a list of these, two bytes. The lowest bits of a number. No condition.
-/
import Derived.Test.YtobpgfnmhpgkeaaLbMem
import Derived.Test.YtobpgfnmhpgkeaaBufArgs
import Derived.Test.YtobpgfnmhpgkeaaLanes
import Derived.Deep.SlicePairs
import Derived.Deep.MidRow
namespace Go.Proofs.Ytobpgfnmhpgkeaa
open Go.ChangeShapes Go.WideShapes Go.ChangeAt Go.RowKit Plain
set_option linter.unusedVariables false

/-- a label as plain data: its value, and what its lists hold. -/
structure RL where
  n : Int
  s : Int
  ep : Int
  sv : Value
  mv : Value
  sts : List Int
  mks : List Int
def rcs (a : RL) : List Value := [.int .i64 a.n, .int .i64 a.s, .int .i64 a.ep, a.sv, a.mv]
def rV (a : RL) : Value := lV a.n a.s a.ep a.sv a.mv
structure ROk (w : World) (a : RL) : Prop where
  h1 : Nl w a.sv a.sts
  h2 : Nl w a.mv a.mks
def noR : RL := ⟨0, 0, 0, .slice none 0 0, .slice none 0 0, [], []⟩
theorem ROk.kp {w w' : World} {a : RL} (h : ROk w a) (k : Kp w w') : ROk w' a := ⟨h.h1.kept k, h.h2.kept k⟩
/-- a list of such, in memory. -/
structure Raws (w : World) (v : Value) (L : List RL) : Prop where
  h : ∃ a cap, v = .slice a L.length cap ∧ L.length ≤ cap ∧ cap ≤ 9223372036854775807 ∧ (0 < L.length → ∃ g off, a = some ⟨g, off, none⟩ ∧ ∀ i, i < L.length → w.rangeAt g (off + i * 5) (rcs (L.getD i noR)))
  ok : ∀ i, i < L.length → ROk w (L.getD i noR)
section
variable {H : Type} {enc : TypeId × Value → H} {P : Program}
theorem open_nums {t e : TypeId} {W : World} {fuel : Nat} {v : Value} {x : DataW H × List MemPlace} (ht : P.underlying t = some (.slice e)) (he : P.underlying e = some (.int .i64)) (hc : P.cellsOf e = 1)
    (hf : DataW.trod enc P W 0 (fun _ => true) true fuel t [v] = some x) : ∃ l : List Int, Nl W v l := by
  rcases open_ints ht he hc hf with ⟨hcs, _⟩ | ⟨a, len, cap, zs, hcs, _, hl, hm, hz, _, hcell, hwf⟩
  · simp at hcs
    subst hcs
    exact ⟨[], Nl.nil W⟩
  · simp at hcs
    subst hcs
    simp only [if_true] at hz
    have hm2 : cap ≤ 9223372036854775807 := by unfold maxLen at hm; omega
    have hlen : (zs.take len).length = len := by rw [List.length_take]; omega
    have hat : ∀ i, i < len → (zs.take len).getD i 0 = zs.getD i 0 := fun i hi => by
      rw [List.getD_eq_getElem?_getD, List.getD_eq_getElem?_getD, List.getElem?_take_of_lt hi]
    by_cases h0 : 0 < len
    · obtain ⟨b, off, spot⟩ := a
      have hspot : spot = none := by simpa [Addr.add] using World.cell?_spot (hcell 0 (by omega))
      subst hspot
      refine ⟨zs.take len, some ⟨b, off, none⟩, b, off, cap, by rw [hlen], ⟨by omega, hm2, fun _ => rfl, fun j hj => ?_⟩⟩
      rw [hlen] at hj
      have hci := hcell j (by omega)
      have ei : (Addr.add ⟨b, off, none⟩ j) = ⟨b, off + j, none⟩ := by simp [Addr.add]
      rw [ei] at hci
      rw [hci, hat j hj]
    · obtain rfl : len = 0 := by omega
      exact ⟨[], some a, 0, 0, cap, rfl, ⟨by simp, hm2, fun h => absurd h (by simp), fun j hj => absurd hj (by simp)⟩⟩
theorem open_raw5 {t f0 f1 f2 f3 f4 : TypeId} {W : World} {fuel : Nat} {cs : List Value} {x : DataW H × List MemPlace} (F : Array Field) (hu : P.underlying t = some (.struct F)) (hF : F.toList.map (fun f => (f.type, f.offset)) = [(f0, 0), (f1, 1), (f2, 2), (f3, 3), (f4, 4)])
    (c0 : P.cellsOf f0 = 1) (c1 : P.cellsOf f1 = 1) (c2 : P.cellsOf f2 = 1) (c3 : P.cellsOf f3 = 1) (c4 : P.cellsOf f4 = 1) (ct : P.cellsOf t = 5)
    (e0 : P.underlying f0 = some (.int .i64)) (e1 : P.underlying f1 = some (.int .i64)) (e2 : P.underlying f2 = some (.int .i64)) (e : TypeId) (e3 : P.underlying f3 = some (.slice e)) (e4 : P.underlying f4 = some (.slice e)) (e5 : P.underlying e = some (.int .i64)) (c5 : P.cellsOf e = 1)
    (h : DataW.trod enc P W 0 (fun _ => true) true fuel t cs = some x) : ∃ a : RL, cs = rcs a ∧ ROk W a := by
  obtain ⟨xs, k, hk, hxy, hcl, hxl, hff⟩ := DataW.trod_struct hu h
  have hsz : F.toList.length = 5 := by have := congrArg List.length hF; simpa using this
  obtain ⟨Fl⟩ := F
  match Fl, hsz with
  | [g0, g1, g2, g3, g4], _ =>
    simp only [List.map_cons, List.map_nil, List.cons.injEq, Prod.mk.injEq, and_true] at hF
    obtain ⟨⟨rfl, o0⟩, ⟨rfl, o1⟩, ⟨rfl, o2⟩, ⟨rfl, o3⟩, ⟨rfl, o4⟩⟩ := hF
    have q0 := hff 0 g0 rfl
    have q1 := hff 1 g1 rfl
    have q2 := hff 2 g2 rfl
    have q3 := hff 3 g3 rfl
    have q4 := hff 4 g4 rfl
    rw [ct] at hcl
    match xs, hxl, cs, hcl with
    | [y0, y1, y2, y3, y4], _, [v0, v1, v2, v3, v4], _ =>
      simp [o0, o1, o2, o3, o4, c0, c1, c2, c3, c4] at q0 q1 q2 q3 q4
      obtain ⟨a, ea, _, wa⟩ := DataW.trod_int e0 q0
      obtain ⟨b, eb, _, wb⟩ := DataW.trod_int e1 q1
      obtain ⟨c, ec, _, wc⟩ := DataW.trod_int e2 q2
      obtain ⟨l1, h1⟩ := open_nums e3 e5 c5 q3
      obtain ⟨l2, h2⟩ := open_nums e4 e5 c5 q4
      simp at ea eb ec
      subst ea; subst eb; subst ec
      exact ⟨⟨a, b, c, v3, v4, l1, l2⟩, rfl, ⟨h1, h2⟩⟩
theorem open_u8two {k e : TypeId} {W : World} {r : Reach} {b0 base : Nat} {sp : Nat → Bool} {held : Bool} {v : Value} {d : DataW H} {ps : List MemPlace} (hu : P.underlying k = some (.array 2 e)) (he : P.underlying e = some (.int .u8)) (hone : P.cellsOf e = 1) (hsize : P.cellsOf k = 2)
    (hval : Value.okWide P W r b0 k v) (hd : DataW.Trod enc P W base sp held k v d ps) : ∃ a b : Nat, v = .agg #[.int .u8 (a : Int), .int .u8 (b : Int)] ∧ a < 256 ∧ b < 256 := by
  have hp : ∃ c0 c1, v = .agg #[c0, c1] := by
    simp only [Value.okWide, hu] at hval
    obtain ⟨cs, h1, h2, _⟩ := hval
    rw [hsize] at h2
    obtain ⟨l⟩ := cs
    match l, h2 with
    | [c0, c1], _ => exact ⟨c0, c1, h1⟩
  obtain ⟨c0, c1, rfl⟩ := hp
  obtain ⟨fuel, hf⟩ := hd
  cases fuel with
  | zero => simp [DataW.trod] at hf
  | succ n =>
    rw [DataW.trod_step] at hf
    unfold DataW.trodStep at hf
    simp only [hu, Value.cells] at hf
    rw [if_pos (by rw [hsize]; rfl)] at hf
    simp only [Option.map_eq_some_iff] at hf
    obtain ⟨xs, hx, e1⟩ := hf
    rw [show List.range 2 = [0, 1] from rfl, List.mapM_cons, List.mapM_cons, List.mapM_nil] at hx
    simp only [bind, Option.bind_eq_some_iff, pure, Option.some.injEq, hone] at hx
    obtain ⟨y0, h0, _, ⟨y1, h1, _, rfl, rfl⟩, rfl⟩ := hx
    obtain ⟨a, ea, rfl, wa⟩ := DataW.trod_int he h0
    obtain ⟨b, eb, rfl, wb⟩ := DataW.trod_int he h1
    simp at ea eb
    subst ea; subst eb
    have b1 := bounds_u8 wa
    have b2 := bounds_u8 wb
    refine ⟨a.toNat, b.toNat, ?_, by omega, by omega⟩
    rw [show ((a.toNat : Nat) : Int) = a by omega, show ((b.toNat : Nat) : Int) = b by omega]
end
set_option maxRecDepth 100000 in
theorem open_raw {H : Type} {enc : TypeId × Value → H} {W : World} {r : Reach} {b0 : Nat} {v : Value} {d : DataW H} {ps : List MemPlace} (hval : Value.okWide Try.prog W r b0 24 v) (hd : DataW.Trod enc Try.prog W 0 (fun _ => true) true 24 v d ps) : ∃ a : RL, v = rV a ∧ ROk W a := by
  have hp : ∃ A, v = .agg A := by
    simp only [Value.okWide, Try.underlying24] at hval
    obtain ⟨cs, h1, h2, _⟩ := hval
    exact ⟨cs, h1⟩
  obtain ⟨A, rfl⟩ := hp
  obtain ⟨fuel, hf⟩ := hd
  obtain ⟨a, h1, h2⟩ := open_raw5 (enc := enc) _ Try.underlying24 rfl (by kernel_rfl) (by kernel_rfl) (by kernel_rfl) (by kernel_rfl) (by kernel_rfl) (by kernel_rfl) Try.underlying3 Try.underlying3 Try.underlying2 3 Try.underlying22 Try.underlying22 Try.underlying3 (by kernel_rfl) hf
  refine ⟨a, ?_, h2⟩
  simp only [Value.cells] at h1
  unfold rV lV
  obtain ⟨Al⟩ := A
  simp only at h1
  rw [h1]
  rfl
set_option maxRecDepth 100000 in
theorem open_raws {H : Type} {enc : TypeId × Value → H} {W : World} {b0 : Nat} {v : Value} {d : DataW H} {ps : List MemPlace} (hv : Value.okWide Try.prog W .any b0 59 v) (h : DataW.Trod enc Try.prog W 0 (fun _ => true) true 59 v d ps) : ∃ L : List RL, Raws W v L := by
  obtain ⟨a0, len, cap, rfl⟩ := okWide_slice Try.underlying59 hv
  obtain ⟨fuel, hf⟩ := h
  rcases Go.Deep.open_slice Try.underlying59 hf with ⟨hcs, _⟩ | ⟨a, len', cap', m, n, D, Pl, hcs, _, hl, hm, hmm, _, hx⟩
  · simp [Value.cells] at hcs
    obtain ⟨rfl, rfl, rfl⟩ := hcs
    exact ⟨[], ⟨⟨none, 0, rfl, by simp, by omega, fun h => absurd h (by simp)⟩, fun i hi => absurd hi (by simp)⟩⟩
  · simp [Value.cells] at hcs
    obtain ⟨rfl, rfl, rfl⟩ := hcs
    simp only [if_true] at hmm
    have hm2 : cap ≤ 9223372036854775807 := by unfold maxLen at hm; omega
    have ct : Try.prog.cellsOf 24 = 5 := by kernel_rfl
    have each : ∀ i, i < m → ∃ z : RL, ROk W z ∧ ∀ j, j < 5 → W.cell? ((a.add (i * 5)).add j) = (rcs z)[j]? := fun i hi => by
      obtain ⟨cs', h1, h2⟩ := hx i hi
      rw [ct] at h1
      obtain ⟨_, hlen, hcell⟩ := World.cells?_some h1
      obtain ⟨z, h3, h4⟩ := open_raw5 (enc := enc) _ Try.underlying24 rfl (by kernel_rfl) (by kernel_rfl) (by kernel_rfl) (by kernel_rfl) (by kernel_rfl) (by kernel_rfl) Try.underlying3 Try.underlying3 Try.underlying2 3 Try.underlying22 Try.underlying22 Try.underlying3 (by kernel_rfl) h2
      refine ⟨z, h4, fun j hj => ?_⟩
      rw [← h3]
      exact hcell j (by omega)
    have inh : Inhabited RL := ⟨noR⟩
    obtain ⟨Z, hZ⟩ := Go.Deep.choose_lt each
    have hlen : ((List.range len).map Z).length = len := by simp
    have hat : ∀ i, i < len → ((List.range len).map Z).getD i noR = Z i := fun i hi => by simp [List.getD_eq_getElem?_getD, hi]
    refine ⟨(List.range len).map Z, ⟨⟨some a, cap, by rw [hlen], by rw [hlen]; exact hl, hm2, fun h0 => ?_⟩, fun i hi => ?_⟩⟩
    · rw [hlen] at h0
      obtain ⟨b, off, spot⟩ := a
      have h00 := (hZ 0 (by omega)).2 0 (by omega)
      have hspot : spot = none := by
        have : W.cell? ((Addr.add ⟨b, off, spot⟩ (0 * 5)).add 0) = some (.int .i64 (Z 0).n) := h00
        simpa [Addr.add] using World.cell?_spot this
      subst hspot
      refine ⟨b, off, rfl, fun i hi j u hu => ?_⟩
      rw [hlen] at hi
      rw [hat i hi] at hu
      have hj : j < 5 := by have := (List.getElem?_eq_some_iff.1 hu).1; simpa [rcs] using this
      have h1 := (hZ i (by omega)).2 j hj
      rw [Addr.add_mid, Addr.add_mid, hu] at h1
      exact h1
    · rw [hlen] at hi
      rw [hat i hi]
      exact (hZ i (by omega)).1
theorem mask31 (n : Int) : bits .and .i64 n 31 = n % 32 := by
  have h : (BitVec.ofInt 64 31).toNat = 2 ^ 5 - 1 := by decide
  have key : (BitVec.ofInt 64 n &&& BitVec.ofInt 64 31).toNat = (n % ((2 ^ 64 : Nat) : Int)).toNat % 2 ^ 5 := by
    rw [BitVec.toNat_and, BitVec.toNat_ofInt, h, Nat.and_two_pow_sub_one_eq_mod]
  show IntKind.i64.wrap ((BitVec.ofInt 64 n &&& BitVec.ofInt 64 31).toNat : Nat) = n % 32
  rw [key, IntKind.wrap_i64]
  omega
theorem mask63 (n : Int) : bits .and .i64 n 63 = n % 64 := by
  have h : (BitVec.ofInt 64 63).toNat = 2 ^ 6 - 1 := by decide
  have key : (BitVec.ofInt 64 n &&& BitVec.ofInt 64 63).toNat = (n % ((2 ^ 64 : Nat) : Int)).toNat % 2 ^ 6 := by
    rw [BitVec.toNat_and, BitVec.toNat_ofInt, h, Nat.and_two_pow_sub_one_eq_mod]
  show IntKind.i64.wrap ((BitVec.ofInt 64 n &&& BitVec.ofInt 64 63).toNat : Nat) = n % 64
  rw [key, IntKind.wrap_i64]
  omega

end Go.Proofs.Ytobpgfnmhpgkeaa
