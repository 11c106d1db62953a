/-
  Arguments of layer 5's laws, opened: arrays of three numbers, lists of lists of numbers. No condition.
-/
import Derived.Test.YtbcmgogfpboibaaGreatDoorRepArgs
import Derived.Test.YtbcmgogfpboibaaGreatDoorRepTwo
namespace Go.Proofs.YtbcmgogfpboibaaGreatDoor
open Go.ChangeShapes Go.WideShapes Go.ChangeAt Go.RowKit

def noR : Value × List Int := (.slice none 0 0, [])
/-- a list of lists of numbers in memory. -/
inductive RowsIn (w : World) : Value → List (Value × List Int) → Prop
  | empty (a : Option Addr) (cap : Nat) (h : cap ≤ maxLen) : RowsIn w (.slice a 0 cap) []
  | some (b off cap : Nat) (l : List (Value × List Int)) (h0 : 0 < l.length) (h1 : l.length ≤ cap) (h2 : cap ≤ maxLen) (hc : ∀ i, i < l.length → w.cell? ⟨b, off + i, none⟩ = Option.some (l.getD i noR).1) (hi : ∀ i, i < l.length → IntsIn w (l.getD i noR).1 (l.getD i noR).2) : RowsIn w (.slice (Option.some ⟨b, off, none⟩) l.length cap) l

section
variable {H : Type} {enc : TypeId × Value → H} {P : Program}
theorem open_ints3 {k e : TypeId} {W : World} {r : Reach} {b0 base : Nat} {sp : Nat → Bool} {held : Bool} {v : Value} {d : DataW H} {ps : List MemPlace} (hu : P.underlying k = some (.array 3 e)) (he : P.underlying e = some (.int .i64)) (hone : P.cellsOf e = 1) (hsize : P.cellsOf k = 3)
    (hval : Value.okWide P W r b0 k v) (hd : DataW.Trod enc P W base sp held k v d ps) : ∃ a b c : Int, v = .agg #[.int .i64 a, .int .i64 b, .int .i64 c] ∧ (Lit.int .i64 a).wf = true ∧ (Lit.int .i64 b).wf = true ∧ (Lit.int .i64 c).wf = true := by
  have hp : ∃ c0 c1 c2, v = .agg #[c0, c1, c2] := by
    simp only [Value.okWide, hu] at hval
    obtain ⟨cs, h1, h2, _⟩ := hval
    rw [hsize] at h2
    obtain ⟨l⟩ := cs
    match l, h2 with
    | [c0, c1, c2], _ => exact ⟨c0, c1, c2, h1⟩
  obtain ⟨c0, c1, c2, rfl⟩ := hp
  obtain ⟨fuel, hf⟩ := hd
  cases fuel with
  | zero => simp [DataW.trod] at hf
  | succ n =>
    rw [DataW.trod_step] at hf
    unfold DataW.trodStep at hf
    simp only [hu, Value.cells] at hf
    rw [if_pos (by rw [hsize]; rfl)] at hf
    simp only [Option.map_eq_some_iff] at hf
    obtain ⟨xs, hx, e1⟩ := hf
    rw [show List.range 3 = [0, 1, 2] from rfl, List.mapM_cons, List.mapM_cons, List.mapM_cons, List.mapM_nil] at hx
    simp only [bind, Option.bind_eq_some_iff, pure, Option.some.injEq, hone] at hx
    obtain ⟨y0, h0, _, ⟨y1, h1, _, ⟨y2, h2, _, rfl, rfl⟩, rfl⟩, rfl⟩ := hx
    obtain ⟨a, ea, rfl, wa⟩ := DataW.trod_int he h0
    obtain ⟨b, eb, rfl, wb⟩ := DataW.trod_int he h1
    obtain ⟨c, ec, rfl, wc⟩ := DataW.trod_int he h2
    simp at ea eb ec
    subst ea; subst eb; subst ec
    exact ⟨a, b, c, rfl, wa, wb, wc⟩

theorem open_rowsL {t e q : TypeId} {W : World} {base : Nat} {v : Value} {d : DataW H} {ps : List MemPlace} (ht : P.underlying t = some (.slice e)) (he : P.underlying e = some (.slice q)) (hq : P.underlying q = some (.int .i64)) (ce : P.cellsOf e = 1) (cq : P.cellsOf q = 1)
    (hv : Value.okWide P W .any base t v) (h : DataW.Trod enc P W 0 (fun _ => true) true t v d ps) : ∃ l : List (Value × List Int), RowsIn W v l := by
  obtain ⟨a0, len, cap, rfl⟩ := okWide_slice ht hv
  obtain ⟨fuel, hf⟩ := h
  rcases Go.Deep.open_int_rows ht he hq ce cq hf with ⟨hcs, _⟩ | ⟨a, len', cap', A, L, C, Z, hcs, _, hl, hm, _, hrow⟩
  · simp [Value.cells] at hcs
    obtain ⟨rfl, rfl, rfl⟩ := hcs
    exact ⟨[], .empty none 0 (by unfold maxLen; omega)⟩
  · simp [Value.cells] at hcs
    obtain ⟨rfl, rfl, rfl⟩ := hcs
    by_cases h0 : len = 0
    · subst h0; exact ⟨[], .empty _ _ hm⟩
    · obtain ⟨b, off, spot⟩ := a
      have hspot : spot = none := by simpa [Addr.add] using World.cell?_spot (hrow 0 (by omega)).1
      subst hspot
      have hlen : ((List.range len).map fun r => (Value.slice (A r) (L r) (C r), (Z r).take (L r))).length = len := by simp
      have hat : ∀ i, i < len → ((List.range len).map fun r => (Value.slice (A r) (L r) (C r), (Z r).take (L r))).getD i noR = (.slice (A i) (L i) (C i), (Z i).take (L i)) := fun i hi => by
        simp [List.getD_eq_getElem?_getD, hi]
      have key := RowsIn.some (w := W) b off cap ((List.range len).map fun r => (Value.slice (A r) (L r) (C r), (Z r).take (L r))) (by omega) (by omega) hm (fun i hi => by
        rw [hlen] at hi
        have hci := (hrow i (by omega)).1
        have ei : (Addr.add ⟨b, off, none⟩ i) = ⟨b, off + i, none⟩ := by simp [Addr.add]
        rw [ei] at hci
        rw [hat i hi]; exact hci) (fun i hi => by
        rw [hlen] at hi
        rw [hat i hi]
        obtain ⟨_, r1, r2, r3, _, r5, r6⟩ := hrow i (by omega)
        show IntsIn W (.slice (A i) (L i) (C i)) ((Z i).take (L i))
        by_cases hz : L i = 0
        · rw [hz]; exact .empty _ _ r2
        · cases hA : A i with
          | none => have := r5 hA; omega
          | some a' =>
            obtain ⟨_, hc⟩ := r6 a' hA
            obtain ⟨b', off', spot'⟩ := a'
            have hs' : spot' = none := by simpa [Addr.add] using World.cell?_spot (hc 0 (by omega))
            subst hs'
            have hl' : ((Z i).take (L i)).length = L i := by rw [List.length_take]; omega
            have k2 := IntsIn.some (w := W) b' off' (C i) ((Z i).take (L i)) (by omega) (by omega) r2 (fun j hj => by
              rw [hl'] at hj
              have hcj := hc j (by omega)
              have ej : (Addr.add ⟨b', off', none⟩ j) = ⟨b', off' + j, none⟩ := by simp [Addr.add]
              rw [ej] at hcj
              rw [hcj, List.getD_eq_getElem?_getD, List.getD_eq_getElem?_getD, List.getElem?_take_of_lt hj])
            rw [hl'] at k2
            exact k2)
      rw [hlen] at key
      exact ⟨_, key⟩
end

/-- a number behind a % b, in two ways. -/
theorem two_step {N qa rb : Nat} (h1 : qa < N) (h2 : rb + 1 < N) : (qa + 1 + rb) % N ≠ qa ∧ (qa + 1 + rb) % N < N := by
  refine ⟨?_, Nat.mod_lt _ (by omega)⟩
  by_cases h : qa + 1 + rb < N
  · rw [Nat.mod_eq_of_lt h]; omega
  · rw [Nat.mod_eq_sub_mod (by omega), Nat.mod_eq_of_lt (by omega)]; omega

end Go.Proofs.YtbcmgogfpboibaaGreatDoor
