/-
  Arguments of layer 7's laws, opened: a list of numbers, four words; the library's table when the call begins, as the row lists it. Condition: that the variable reads as it is listed.
-/
import Derived.Test.YtekbhgcnobiplaaDoorMkLaw
import Derived.Test.YtekbhgcnobiplaaDoorRows
import Derived.Test.YtekbhgcnobiplaaDoorBufArgs
import Derived.ProofKit
import Derived.LaidMore
import Derived.OpenShut
import Derived.Stop.Joined
import Derived.Deep.Matrix
namespace Go.Proofs.YtekbhgcnobiplaaDoor
open Go.ChangeShapes Go.WideShapes Go.ChangeAt Go.RowKit Plain
set_option linter.unusedVariables false

section
variable {H : Type} {enc : TypeId × Value → H} {P : Program}
theorem open_set4 {k e : TypeId} {W : World} {r : Reach} {b0 base : Nat} {sp : Nat → Bool} {held : Bool} {v : Value} {d : DataW H} {ps : List MemPlace} (hu : P.underlying k = some (.array 4 e)) (he : P.underlying e = some (.int .u64)) (hone : P.cellsOf e = 1) (hsize : P.cellsOf k = 4)
    (hval : Value.okWide P W r b0 k v) (hd : DataW.Trod enc P W base sp held k v d ps) : ∃ a b c d : Int, v = .agg #[.int .u64 a, .int .u64 b, .int .u64 c, .int .u64 d] ∧ (Lit.int .u64 a).wf = true ∧ (Lit.int .u64 b).wf = true ∧ (Lit.int .u64 c).wf = true ∧ (Lit.int .u64 d).wf = true := by
  have hp : ∃ c0 c1 c2 c3, v = .agg #[c0, c1, c2, c3] := by
    simp only [Value.okWide, hu] at hval
    obtain ⟨cs, h1, h2, _⟩ := hval
    rw [hsize] at h2
    obtain ⟨l⟩ := cs
    match l, h2 with
    | [c0, c1, c2, c3], _ => exact ⟨c0, c1, c2, c3, h1⟩
  obtain ⟨c0, c1, c2, c3, rfl⟩ := hp
  obtain ⟨fuel, hf⟩ := hd
  cases fuel with
  | zero => simp [DataW.trod] at hf
  | succ n =>
    rw [DataW.trod_step] at hf
    unfold DataW.trodStep at hf
    simp only [hu, Value.cells] at hf
    rw [if_pos (by rw [hsize]; rfl)] at hf
    simp only [Option.map_eq_some_iff] at hf
    obtain ⟨xs, hx, e1⟩ := hf
    rw [show List.range 4 = [0, 1, 2, 3] from rfl, List.mapM_cons, List.mapM_cons, List.mapM_cons, List.mapM_cons, List.mapM_nil] at hx
    simp only [bind, Option.bind_eq_some_iff, pure, Option.some.injEq, hone] at hx
    obtain ⟨y0, h0, _, ⟨y1, h1, _, ⟨y2, h2, _, ⟨y3, h3, _, rfl, rfl⟩, rfl⟩, rfl⟩, rfl⟩ := hx
    obtain ⟨a, ea, rfl, wa⟩ := DataW.trod_int he h0
    obtain ⟨b, eb, rfl, wb⟩ := DataW.trod_int he h1
    obtain ⟨c, ec, rfl, wc⟩ := DataW.trod_int he h2
    obtain ⟨d, ed, rfl, wd⟩ := DataW.trod_int he h3
    simp at ea eb ec ed
    subst ea; subst eb; subst ec; subst ed
    exact ⟨a, b, c, d, rfl, wa, wb, wc, wd⟩
theorem open_intsL {t e : TypeId} {W : World} {base : Nat} {v : Value} {d : DataW H} {ps : List MemPlace} (ht : P.underlying t = some (.slice e)) (he : P.underlying e = some (.int .i64)) (hc : P.cellsOf e = 1)
    (hv : Value.okWide P W .any base t v) (h : DataW.Trod enc P W 0 (fun _ => true) true t v d ps) : ∃ l : List Int, IntsIn W v l := by
  obtain ⟨a0, len, cap, rfl⟩ := okWide_slice ht hv
  obtain ⟨fuel, hf⟩ := h
  rcases open_ints ht he hc hf with ⟨hcs, _⟩ | ⟨a, len', cap', zs, hcs, _, hl, hm, hz, _, hcell, _⟩
  · simp [Value.cells] at hcs
    obtain ⟨rfl, rfl, rfl⟩ := hcs
    exact ⟨[], .empty none 0 (by unfold maxLen; omega)⟩
  · simp [Value.cells] at hcs
    obtain ⟨rfl, rfl, rfl⟩ := hcs
    simp only [if_true] at hz
    by_cases h0 : len = 0
    · subst h0; exact ⟨[], .empty _ _ hm⟩
    · obtain ⟨b, off, spot⟩ := a
      have hspot : spot = none := by simpa [Addr.add] using World.cell?_spot (hcell 0 (by omega))
      subst hspot
      have hlen : (zs.take len).length = len := by rw [List.length_take]; omega
      have key := IntsIn.some (w := W) b off cap (zs.take len) (by omega) (by omega) hm (fun i hi => by
        rw [hlen] at hi
        have hci := hcell i (by omega)
        have ei : (Addr.add ⟨b, off, none⟩ i) = ⟨b, off + i, none⟩ := by simp [Addr.add]
        rw [ei] at hci
        rw [hci, List.getD_eq_getElem?_getD, List.getD_eq_getElem?_getD, List.getElem?_take_of_lt hi])
      rw [hlen] at key
      exact ⟨zs.take len, key⟩
end
/-- a set of four words. -/
theorem set_value (a b c d : Int) (ha : (Lit.int .u64 a).wf = true) (hb : (Lit.int .u64 b).wf = true) (hc : (Lit.int .u64 c).wf = true) (hd : (Lit.int .u64 d).wf = true) : ∃ f, Value.agg #[.int .u64 a, .int .u64 b, .int .u64 c, .int .u64 d] = SV f := by
  have h1 := bounds_u64 ha
  have h2 := bounds_u64 hb
  have h3 := bounds_u64 hc
  have h4 := bounds_u64 hd
  obtain ⟨na, rfl⟩ : ∃ n : Nat, a = n := ⟨a.toNat, by omega⟩
  obtain ⟨nb, rfl⟩ : ∃ n : Nat, b = n := ⟨b.toNat, by omega⟩
  obtain ⟨nc, rfl⟩ : ∃ n : Nat, c = n := ⟨c.toNat, by omega⟩
  obtain ⟨nd, rfl⟩ : ∃ n : Nat, d = n := ⟨d.toNat, by omega⟩
  obtain ⟨e1, e2, e3, e4⟩ := b4_words na nb nc nd (by omega) (by omega) (by omega) (by omega)
  refine ⟨b4 na nb nc nd, ?_⟩
  unfold SV
  rw [e1, e2, e3, e4]

def lz : List (String × DataW Unit) := Rows.marksOfRow.laid
theorem door_met (os : Os) (args : Array Value) : laidMetH Tryd.prog lz ((World.doorLaid Tryd.prog 400 os).forCall (fun _ _ => 0) ⟨#[], args, []⟩).memory :=
  laidMetH_of_parts3 (fuel := 8) (laidMet_of_run' 8 (by kernel_rfl) (by kernel_rfl)) (by kernel_rfl) (by kernel_rfl)
theorem of_laid {W : World} (h : laidMetH Tryd.prog lz W) : Tab W := by
  rw [MakeChecks.laidMetH_plain _ _ _ (by kernel_rfl)] at h
  obtain ⟨ps, ⟨g0, t0, cs0, f0, p0, q0, hg0, ht0, hv0, hd0, _, _⟩, _, _⟩ := h
  have e0 : some g0 = some 0 := hg0.symm.trans (by kernel_rfl)
  obtain rfl := Option.some.inj e0
  have e1 : some t0 = some 59 := ht0.symm.trans (by kernel_rfl)
  obtain rfl := Option.some.inj e1
  obtain ⟨xs, m1, rfl, hx1, hlen, hn3, hel⟩ := DataW.trod_array Tryd.underlying59 hd0
  have c9 : Tryd.prog.cellsOf 5 = 1 := by kernel_rfl
  obtain ⟨hag, _⟩ := Prod.mk.inj hx1
  have hl : xs.map (·.1) = Lib.deBruijn64tab.map (fun (n : Nat) => (.lit (.int .u8 (n : Int)) : DataW Unit)) := (DataW.agg.inj hag).symm
  have ht : Lib.deBruijn64tab.length = 64 := by decide
  intro j hj0
  have hj : j < 64 := by rw [ht] at hj0; exact hj0
  have hj' := hel j hj
  rw [c9, Nat.mul_one, List.getElem?_eq_getElem (by omega)] at hj'
  obtain ⟨s, e2, e3, _⟩ := DataW.trod_int Tryd.underlying5 hj'
  have e4 : cs0.toList[j]? = some (.int .u8 s) := by
    have := congrArg (fun l => l[0]?) e2
    simpa using this
  have hc := World.var?_cell hg0 hv0 j
  rw [← Array.getElem?_toList, e4] at hc
  have e5 : (xs.map (·.1))[j]? = some (.lit (.int .u8 s)) := by
    rw [List.getElem?_map, List.getElem?_eq_getElem (by omega)]
    simp [e3]
  rw [hl, List.getElem?_map, List.getElem?_eq_getElem hj0] at e5
  have e6 : s = ((Lib.deBruijn64tab.getD j 0 : Nat) : Int) := by
    rw [List.getD_eq_getElem?_getD, List.getElem?_eq_getElem hj0]
    simp at e5
    simp [← e5]
  rw [← e6]
  exact hc

end Go.Proofs.YtekbhgcnobiplaaDoor
