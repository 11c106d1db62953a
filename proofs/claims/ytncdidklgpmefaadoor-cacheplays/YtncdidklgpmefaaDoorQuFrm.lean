/-
  Objects of the call's own: what is left where other blocks are turned. No condition.
-/
import Derived.Test.YtncdidklgpmefaaDoorShr
import Derived.Deep.MidRow
import Derived.Laws.BytesArg
import Derived.Laws.AppendOwnNone
import Derived.Maps.AppendAt
import Derived.Deep.OwnRows
namespace Go.Proofs.YtncdidklgpmefaaDoor
open Go.RowKit Plain
set_option linter.unusedVariables false

/-- w' is w with whatever is new behind it, and with stores into the blocks of T. -/
structure Sp (T : List Nat) (w w' : World) : Prop where
  os : w'.os = w.os
  tape : w'.tape = w.tape
  output : w'.output = w.output
  size : w.heap.size ≤ w'.heap.size
  block : ∀ k, k < w.heap.size → k ∉ T → w'.heap[k]? = w.heap[k]?
theorem Sp.refl (T : List Nat) (w : World) : Sp T w w := ⟨rfl, rfl, rfl, Nat.le_refl _, fun _ _ _ => rfl⟩
theorem Sp.trans {T : List Nat} {a b c : World} (h : Sp T a b) (k : Sp T b c) : Sp T a c :=
  ⟨k.os.trans h.os, k.tape.trans h.tape, k.output.trans h.output, Nat.le_trans h.size k.size, fun i hi hn => (k.block i (Nat.lt_of_lt_of_le hi h.size) hn).trans (h.block i hi hn)⟩
theorem Sp.mono {T T' : List Nat} {a b : World} (h : Sp T a b) (hs : ∀ t, t ∈ T → t ∈ T') : Sp T' a b :=
  ⟨h.os, h.tape, h.output, h.size, fun i hi hn => h.block i hi (fun ht => hn (hs i ht))⟩
theorem Kp.sp {a b : World} (h : Kp a b) (T : List Nat) : Sp T a b := ⟨h.os, h.tape, h.output, h.size, fun i hi _ => h.block i hi⟩
theorem Sp.set {T : List Nat} {a b : World} (h : Sp T a b) (B i : Nat) (hB : B ∈ T) (v : Value) : Sp T a (b.setCell ⟨B, i, none⟩ v) :=
  h.trans ⟨rfl, rfl, rfl, by simp [World.setCell], fun k _ hk => Below.heap_setCell _ _ _ _ (fun e => hk (by rw [e]; exact hB))⟩
theorem Sp.setCells {T : List Nat} {a : World} (B : Nat) (hB : B ∈ T) : ∀ (vs : List Value) (o : Nat) (b : World), Sp T a b → Sp T a (b.setCells B o vs)
  | [], _, _, h => h
  | v :: r, o, b, h => by
    rw [World.setCells]
    exact Sp.setCells B hB r (o + 1) _ (h.set B o hB v)
/-- the blocks of T' are those of T, or new. -/
def Nw (w : World) (T T' : List Nat) : Prop := ∀ t, t ∈ T' → t ∈ T ∨ w.heap.size ≤ t
theorem Nw.refl (w : World) (T : List Nat) : Nw w T T := fun _ h => .inl h
theorem Nw.trans {w w' : World} {T T' T'' : List Nat} (h : Nw w T T') (k : Nw w' T' T'') (hs : w.heap.size ≤ w'.heap.size) : Nw w T T'' := fun t ht => by
  rcases k t ht with h1 | h1
  · exact h t h1
  · exact .inr (Nat.le_trans hs h1)
/-- two steps, the second at blocks that the first one left. -/
theorem Sp.then {T T' : List Nat} {a b c : World} (h : Sp T a b) (k : Sp T' b c) (hn : Nw a T T') : Sp T a c :=
  ⟨k.os.trans h.os, k.tape.trans h.tape, k.output.trans h.output, Nat.le_trans h.size k.size, fun i hi hT => (k.block i (Nat.lt_of_lt_of_le hi h.size) (fun ht => by
    rcases hn i ht with h1 | h1
    · exact hT h1
    · omega)).trans (h.block i hi hT)⟩
theorem Sp.kp {T : List Nat} {w0 w w' : World} (h0 : Kp w0 w) (h : Sp T w w') (hT : ∀ t, t ∈ T → w0.heap.size ≤ t) : Kp w0 w' :=
  ⟨h.os.trans h0.os, h.tape.trans h0.tape, h.output.trans h0.output, Nat.le_trans h0.size h.size, fun k hk => (h.block k (Nat.lt_of_lt_of_le hk h0.size) (fun ht => by have := hT k ht; omega)).trans (h0.block k hk)⟩
theorem Sp.cell {T : List Nat} {w w' : World} (h : Sp T w w') {b : Nat} (hb : b < w.heap.size) (hn : b ∉ T) (o : Nat) : w'.cell? ⟨b, o, none⟩ = w.cell? ⟨b, o, none⟩ := World.cell?_of_block (w := w) (a := ⟨b, o, none⟩) (h.block b hb hn)
theorem Sp.frozen {T : List Nat} {w w' : World} (h : Sp T w w') {b : Nat} (hb : b < w.heap.size) (hn : b ∉ T) (o : Nat) : w'.frozen? ⟨b, o, none⟩ = w.frozen? ⟨b, o, none⟩ := World.frozen?_of_block (w := w) (a := ⟨b, o, none⟩) (h.block b hb hn)
theorem Sp.held {T : List Nat} {w w' : World} (h : Sp T w w') {b o : Nat} {v : Value} (hc : w.cell? ⟨b, o, none⟩ = some v) (hn : b ∉ T) : w'.cell? ⟨b, o, none⟩ = some v := (h.cell (World.block_lt_of_cell? w _ hc) hn o).trans hc
theorem Sp.range {T : List Nat} {w w' : World} (h : Sp T w w') {b o : Nat} {cs : List Value} (hc : w.rangeAt b o cs) (hn : b ∉ T) : w'.rangeAt b o cs := fun j v hv => h.held (hc j v hv) hn
theorem Sp.there {T : List Nat} {w w' : World} (h : Sp T w w') {b o n : Nat} (hc : w.there b o n) (hn : b ∉ T) : w'.there b o n := fun j hj => by
  obtain ⟨h1, h2⟩ := hc j hj
  obtain ⟨v, hv⟩ := Option.isSome_iff_exists.1 h1
  have hb := World.block_lt_of_cell? w _ hv
  exact ⟨by rw [h.held hv hn]; rfl, (h.frozen hb hn _).trans h2⟩
theorem Sp.own {T : List Nat} {w w' : World} (h : Sp T w w') {base : Nat} {e : TypeId} {size : Nat} {v : Value} {n : Nat} {xs : List Value} (ho : w.ownsRow base e size v n xs) (hn : ∀ g, v.ownBlock = some g → g ∉ T) : w'.ownsRow base e size v n xs := by
  rcases ho.2 with ⟨h', h0⟩ | ⟨g, cap, cur, h', hb, hg, hr⟩
  · exact ⟨ho.1, .inl ⟨h', h0⟩⟩
  · refine ⟨ho.1, .inr ⟨g, cap, cur, h', hb, (h.block g (Array.getElem?_eq_some_iff.1 hg).1 (hn g (by rw [h']; rfl))).trans hg, hr⟩⟩
theorem cell_off (w : World) (b i j : Nat) (v : Value) (h : j ≠ i) : (w.setCell ⟨b, i, none⟩ v).cell? ⟨b, j, none⟩ = w.cell? ⟨b, j, none⟩ := World.cell?_setCell_other _ _ _ _ (by intro e; cases e; exact h rfl)


def Dj (T T' : List Nat) : Prop := ∀ t, t ∈ T → t ∉ T'
theorem Dj.symm {T T' : List Nat} (h : Dj T T') : Dj T' T := fun t h1 h2 => h t h2 h1
/-- an object's law: its blocks are there, and new; it stays where others are turned. -/
structure OL {σ : Type} (O : World → World → Nat → List Nat → σ → Prop) : Prop where
  low : ∀ {w0 w : World} {b : Nat} {T : List Nat} {S : σ}, O w0 w b T S → ∀ t, t ∈ T → t < w.heap.size
  new : ∀ {w0 w : World} {b : Nat} {T : List Nat} {S : σ}, O w0 w b T S → ∀ t, t ∈ T → w0.heap.size ≤ t
  sp : ∀ {w0 w w' : World} {b : Nat} {T T' : List Nat} {S : σ}, O w0 w b T S → Sp T' w w' → (∀ t, t ∈ T → t ∉ T') → O w0 w' b T S
/-- behind a call on it. -/
def Nz {σ : Type} (O : World → World → Nat → List Nat → σ → Prop) (w0 w w' : World) (b : Nat) (T : List Nat) (S : σ) : Prop := ∃ T', O w0 w' b T' S ∧ Sp T w w' ∧ Nw w T T'
theorem Nz.below {σ : Type} {O : World → World → Nat → List Nat → σ → Prop} (L : OL O) {w0 w w' : World} {b : Nat} {T : List Nat} {S S' : σ} (h : Nz O w0 w w' b T S) (h0 : O w0 w b T S') (k : Kp w0 w) : Kp w0 w' := by
  obtain ⟨T', h1, h2, h3⟩ := h
  exact Sp.kp k h2 (L.new h0)
theorem Nz.refl {σ : Type} {O : World → World → Nat → List Nat → σ → Prop} {w0 w : World} {b : Nat} {T : List Nat} {S : σ} (h : O w0 w b T S) : Nz O w0 w w b T S := ⟨T, h, Sp.refl _ _, Nw.refl _ _⟩
theorem Nz.kp {σ : Type} {O : World → World → Nat → List Nat → σ → Prop} (L : OL O) {w0 w w' w'' : World} {b : Nat} {T : List Nat} {S : σ} (h : Nz O w0 w w' b T S) (k : Kp w' w'') : Nz O w0 w w'' b T S := by
  obtain ⟨T', h1, h2, h3⟩ := h
  exact ⟨T', L.sp h1 (k.sp []) (fun _ _ h => by cases h), h2.trans (k.sp _), h3⟩
theorem Nz.trans {σ : Type} {O : World → World → Nat → List Nat → σ → Prop} {w0 w w' w'' : World} {b : Nat} {T : List Nat} {S S' : σ} (h : Nz O w0 w w' b T S) (k : ∀ T', O w0 w' b T' S → Nz O w0 w' w'' b T' S') : Nz O w0 w w'' b T S' := by
  obtain ⟨T', h1, h2, h3⟩ := h
  obtain ⟨T2, q1, q2, q3⟩ := k T' h1
  exact ⟨T2, q1, h2.then q2 h3, h3.trans q3 h2.size⟩

end Go.Proofs.YtncdidklgpmefaaDoor
