/-
  A label in a block whose two lists grow by appends (Rg): one element appended to the first list, to the second one, and the list stored in the block. Conditions: that the lists are the call's own and apart.
-/
import Derived.Test.YtobpgfnmhpgkeaaLbApp
namespace Go.Proofs.Ytobpgfnmhpgkeaa
open Go.RowKit Plain
set_option linter.unusedVariables false

theorem Ap.frozen {w w' : World} {v v' : Value} (h : Ap w w' v v') {b o : Nat} (hb : v.ownBlock ≠ some b) (hl : b < w.heap.size) : w'.frozen? ⟨b, o, none⟩ = w.frozen? ⟨b, o, none⟩ :=
  World.frozen?_of_block (w := w) (a := ⟨b, o, none⟩) (h.g.block b hl (fun e => hb e.symm))
theorem Oi.shape {e : TypeId} {w : World} {base : Nat} {v : Value} {l : List Int} (h : Oi e w base v l) : ∃ a n cap, v = .slice a n cap := by
  rcases h.2 with ⟨rfl, _⟩ | ⟨g, cap, cur, rfl, _⟩
  · exact ⟨_, _, _, rfl⟩
  · exact ⟨_, _, _, rfl⟩
/-- a row of the call's own stays where another one has grown. -/
theorem Ap.oi {w w' : World} {v v' u : Value} {e : TypeId} {base : Nat} {l : List Int} (h : Ap w w' v v') (hu : Oi e w base u l) (hne : ∀ k, u.ownBlock = some k → v.ownBlock ≠ some k) : Oi e w' base u l :=
  World.ownsRow.kept hu h.g (by
    cases hq : u.ownBlock with
    | none => exact .inl rfl
    | some k => exact .inr (fun e2 => hne k hq e2.symm))
theorem Trd.oi {b : Nat} {w w' : World} (h : Trd b w w') {e : TypeId} {base : Nat} {v : Value} {l : List Int} (k : Oi e w base v l) (hb : v.ownBlock ≠ some b) : Oi e w' base v l := by
  rcases k.2 with ⟨h', h0⟩ | ⟨g, cap, cur, h', hb', hg, hr⟩
  · exact ⟨k.1, .inl ⟨h', h0⟩⟩
  · subst h'
    exact ⟨k.1, .inr ⟨g, cap, cur, rfl, hb', (h.block g (fun e => hb (by rw [e]; rfl))).trans hg, hr⟩⟩
/-- a label at block B with lists of its own, and what else must stay (the blocks of F). -/
structure Rg (e1 e2 : TypeId) (base B : Nat) (n s ep : Int) (wr : World) (sv mv : Value) (l m : List Int) : Prop where
  lb : Lc wr B n s ep sv mv
  fb : ∀ o, wr.frozen? ⟨B, o, none⟩ = false
  o1 : Oi e1 wr base sv l
  o2 : Oi e2 wr base mv m
  ap : ∀ k, sv.ownBlock = some k → mv.ownBlock ≠ some k
  hB : B < base
  hb : base ≤ wr.heap.size
theorem Rg.kept {e1 e2 : TypeId} {base B : Nat} {n s ep : Int} {wr w' : World} {sv mv : Value} {l m : List Int} (h : Rg e1 e2 base B n s ep wr sv mv l m) (k : Kp wr w') : Rg e1 e2 base B n s ep w' sv mv l m :=
  ⟨h.lb.kept k, fun o => (Below.frozen (p := ⟨B, o, none⟩) k (Nat.lt_of_lt_of_le h.hB h.hb)).trans (h.fb o), h.o1.kept k, h.o2.kept k, h.ap, h.hB, Nat.le_trans h.hb k.size⟩
theorem Rg.n1 {e1 e2 : TypeId} {base B : Nat} {n s ep : Int} {wr : World} {sv mv : Value} {l m : List Int} (h : Rg e1 e2 base B n s ep wr sv mv l m) : ∀ b, b < base → sv.ownBlock ≠ some b := fun b hb e => by have := (h.o1.low b e).1; omega
theorem Rg.n2 {e1 e2 : TypeId} {base B : Nat} {n s ep : Int} {wr : World} {sv mv : Value} {l m : List Int} (h : Rg e1 e2 base B n s ep wr sv mv l m) : ∀ b, b < base → mv.ownBlock ≠ some b := fun b hb e => by have := (h.o2.low b e).1; omega
/-- the first list has grown: the label's cells are as they were. -/
theorem Rg.after1 {e1 e2 : TypeId} {base B : Nat} {n s ep : Int} {wr w9 : World} {sv mv v2 : Value} {l m : List Int} (h : Rg e1 e2 base B n s ep wr sv mv l m) (a : Ap wr w9 sv v2) : Lc w9 B n s ep sv mv ∧ ∀ o, w9.frozen? ⟨B, o, none⟩ = false :=
  ⟨⟨a.cell (h.n1 B h.hB) h.lb.c0, a.cell (h.n1 B h.hB) h.lb.c1, a.cell (h.n1 B h.hB) h.lb.c2, a.cell (h.n1 B h.hB) h.lb.c3, a.cell (h.n1 B h.hB) h.lb.c4⟩, fun o => (a.frozen (h.n1 B h.hB) (Nat.lt_of_lt_of_le h.hB h.hb)).trans (h.fb o)⟩
theorem Rg.after2 {e1 e2 : TypeId} {base B : Nat} {n s ep : Int} {wr w9 : World} {sv mv v2 : Value} {l m : List Int} (h : Rg e1 e2 base B n s ep wr sv mv l m) (a : Ap wr w9 mv v2) : Lc w9 B n s ep sv mv ∧ ∀ o, w9.frozen? ⟨B, o, none⟩ = false :=
  ⟨⟨a.cell (h.n2 B h.hB) h.lb.c0, a.cell (h.n2 B h.hB) h.lb.c1, a.cell (h.n2 B h.hB) h.lb.c2, a.cell (h.n2 B h.hB) h.lb.c3, a.cell (h.n2 B h.hB) h.lb.c4⟩, fun o => (a.frozen (h.n2 B h.hB) (Nat.lt_of_lt_of_le h.hB h.hb)).trans (h.fb o)⟩
/-- .. and the list is stored. -/
theorem Rg.put1 {e1 e2 : TypeId} {base B : Nat} {n s ep : Int} {wr w9 : World} {sv mv v2 : Value} {l m : List Int} {p : Int} (h : Rg e1 e2 base B n s ep wr sv mv l m) (a : Ap wr w9 sv v2) (o : Oi e1 w9 base v2 (l ++ [p])) : Rg e1 e2 base B n s ep (w9.setCell ⟨B, 3, none⟩ v2) v2 mv (l ++ [p]) m := by
  obtain ⟨q1, q2⟩ := h.after1 a
  have t : Trd B w9 (w9.setCell ⟨B, 3, none⟩ v2) := (Trd.refl B w9).setCell 3 _
  have hz := t.size
  refine ⟨q1.set3 v2, fun o => by rw [World.frozen?_setCell]; exact q2 o, t.oi o (fun e => ?_), t.oi (a.oi h.o2 (fun k hk hs => h.ap k hs hk)) (h.n2 B h.hB), fun k hk hm => ?_, h.hB, by have := a.size; have := h.hb; omega⟩
  · have := (o.low B e).1
    have := h.hB
    omega
  · rcases a.own with e | e
    · exact h.ap k (e.symm.trans hk) hm
    · have h1 := (h.o2.low k hm).2
      have h2 : wr.heap.size = k := Option.some.inj (e.symm.trans hk)
      omega
theorem Rg.put2 {e1 e2 : TypeId} {base B : Nat} {n s ep : Int} {wr w9 : World} {sv mv v2 : Value} {l m : List Int} {p : Int} (h : Rg e1 e2 base B n s ep wr sv mv l m) (a : Ap wr w9 mv v2) (o : Oi e2 w9 base v2 (m ++ [p])) : Rg e1 e2 base B n s ep (w9.setCell ⟨B, 4, none⟩ v2) sv v2 l (m ++ [p]) := by
  obtain ⟨q1, q2⟩ := h.after2 a
  have t : Trd B w9 (w9.setCell ⟨B, 4, none⟩ v2) := (Trd.refl B w9).setCell 4 _
  have hz := t.size
  refine ⟨q1.set4 v2, fun o => by rw [World.frozen?_setCell]; exact q2 o, t.oi (a.oi h.o1 (fun k hk => h.ap k hk)) (h.n1 B h.hB), t.oi o (fun e => ?_), fun k hk hm => ?_, h.hB, by have := a.size; have := h.hb; omega⟩
  · have := (o.low B e).1
    have := h.hB
    omega
  · rcases a.own with e | e
    · exact h.ap k hk (e.symm.trans hm)
    · have h1 := (h.o1.low k hk).2
      have h2 : wr.heap.size = k := Option.some.inj (e.symm.trans hm)
      omega

/-- .. with a label's block r that is as it was made, in a call that began in w. -/
structure Rq (e1 e2 : TypeId) (w : World) (r base B : Nat) (n s ep : Int) (wr : World) (sv mv : Value) (l m : List Int) : Prop where
  g : Rg e1 e2 base B n s ep wr sv mv l m
  l0 : Lc wr r 0 0 0 (.slice none 0 0) (.slice none 0 0)
  f0 : ∀ o, wr.frozen? ⟨r, o, none⟩ = false
  k : Kp w wr
  hr : r < base
  ne : r ≠ B
  hw : w.heap.size ≤ base
  hwB : w.heap.size ≤ B
theorem Rq.kept {e1 e2 : TypeId} {w : World} {r base B : Nat} {n s ep : Int} {wr w' : World} {sv mv : Value} {l m : List Int} (h : Rq e1 e2 w r base B n s ep wr sv mv l m) (k : Kp wr w') : Rq e1 e2 w r base B n s ep w' sv mv l m :=
  ⟨h.g.kept k, h.l0.kept k, fun o => (Below.frozen (p := ⟨r, o, none⟩) k (Nat.lt_of_lt_of_le h.hr h.g.hb)).trans (h.f0 o), h.k.trans k, h.hr, h.ne, h.hw, h.hwB⟩
theorem Ap.lc {w w' : World} {v v' : Value} (a : Ap w w' v v') {b : Nat} (hb : v.ownBlock ≠ some b) {n s ep : Int} {sv mv : Value} (h : Lc w b n s ep sv mv) : Lc w' b n s ep sv mv := ⟨a.cell hb h.c0, a.cell hb h.c1, a.cell hb h.c2, a.cell hb h.c3, a.cell hb h.c4⟩
theorem Rq.put1 {e1 e2 : TypeId} {w : World} {r base B : Nat} {n s ep : Int} {wr w9 : World} {sv mv v2 : Value} {l m : List Int} {p : Int} (h : Rq e1 e2 w r base B n s ep wr sv mv l m) (a : Ap wr w9 sv v2) (o : Oi e1 w9 base v2 (l ++ [p])) : Rq e1 e2 w r base B n s ep (w9.setCell ⟨B, 3, none⟩ v2) v2 mv (l ++ [p]) m := by
  have t : Trd B w9 (w9.setCell ⟨B, 3, none⟩ v2) := (Trd.refl B w9).setCell 3 _
  have hl := h.g.n1 r h.hr
  refine ⟨h.g.put1 a o, t.lc h.ne (a.lc hl h.l0), fun o => ?_, t.kp w (a.kp h.k (fun b hb => ?_)) h.hwB, h.hr, h.ne, h.hw, h.hwB⟩
  · rw [World.frozen?_setCell, a.frozen hl (Nat.lt_of_lt_of_le h.hr h.g.hb)]; exact h.f0 o
  · have := (h.g.o1.low b hb).1
    have := h.hw
    omega
theorem Rq.put2 {e1 e2 : TypeId} {w : World} {r base B : Nat} {n s ep : Int} {wr w9 : World} {sv mv v2 : Value} {l m : List Int} {p : Int} (h : Rq e1 e2 w r base B n s ep wr sv mv l m) (a : Ap wr w9 mv v2) (o : Oi e2 w9 base v2 (m ++ [p])) : Rq e1 e2 w r base B n s ep (w9.setCell ⟨B, 4, none⟩ v2) sv v2 l (m ++ [p]) := by
  have t : Trd B w9 (w9.setCell ⟨B, 4, none⟩ v2) := (Trd.refl B w9).setCell 4 _
  have hl := h.g.n2 r h.hr
  refine ⟨h.g.put2 a o, t.lc h.ne (a.lc hl h.l0), fun o => ?_, t.kp w (a.kp h.k (fun b hb => ?_)) h.hwB, h.hr, h.ne, h.hw, h.hwB⟩
  · rw [World.frozen?_setCell, a.frozen hl (Nat.lt_of_lt_of_le h.hr h.g.hb)]; exact h.f0 o
  · have := (h.g.o2.low b hb).1
    have := h.hw
    omega

end Go.Proofs.Ytobpgfnmhpgkeaa
