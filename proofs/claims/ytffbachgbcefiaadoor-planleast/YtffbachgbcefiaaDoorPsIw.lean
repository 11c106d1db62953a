/-
  A state in a block, and sets in blocks of the call beside it. No condition.
-/
import Derived.Test.YtffbachgbcefiaaDoorPsMem
import Derived.Test.YtffbachgbcefiaaDoorMkOf
namespace Go.Proofs.YtffbachgbcefiaaDoor
open Go.RowKit Plain
set_option linter.unusedVariables false
set_option linter.unusedSimpArgs false

/-- a state in a block, a set behind it, nothing else changed. -/
structure Iw (w X : World) (s : PS) (v : Nat → Nat) : Prop where
  bx : Bx X w.heap.size s
  a4 : A4 X (w.heap.size + 1) v
  kp : Kp w X
theorem Iw.kept {w X X' : World} {s : PS} {v : Nat → Nat} (h : Iw w X s v) (k : Kp X X') : Iw w X' s v := ⟨h.bx.kept k, h.a4.kept k, h.kp.trans k⟩
theorem Iw.new (w : World) (s : PS) : Iw w ((w.alloc (.cells (psA s) 30)).alloc (.cells (w4 no4) 28)) s no4 :=
  ⟨(Bx.new w s).kept ((Kp.refl _).alloc _), by
    have := A4.new (w.alloc (.cells (psA s) 30)) no4 28
    simpa using this, ((Kp.refl w).alloc _).alloc _⟩
theorem Iw.call {w X : World} {s : PS} {v : Nat → Nat} {f : FuncId} {args : Array Value} {r : Value} (h : Iw w X s v) (hc : Calls Tryd.prog f args X fun e X' => e = .returned r ∧ Kp X X') : Calls Tryd.prog f args X fun e X' => e = .returned r ∧ Iw w X' s v :=
  hc.mono fun e X' ⟨he, k⟩ => ⟨he, h.kept k⟩
theorem Iw.bx2 {w X : World} {s : PS} {v : Nat → Nat} (h : Iw w X s v) (u : Nat → Nat) : Bx (put4 X (w.heap.size + 1) u) w.heap.size s := by
  have hk : ∀ (Y : World) (o : Nat) (x : Value), (Y.setCell ⟨w.heap.size + 1, o, none⟩ x).heap[w.heap.size]? = Y.heap[w.heap.size]? := fun Y o x => Below.heap_setCell _ _ _ _ (show w.heap.size ≠ w.heap.size + 1 by omega)
  unfold Bx put4
  rw [hk, hk, hk, hk]
  exact h.bx
theorem Iw.put {w X : World} {s : PS} {v : Nat → Nat} (h : Iw w X s v) (u : Nat → Nat) : A4 (put4 X (w.heap.size + 1) u) (w.heap.size + 1) u ∧ Kp w (put4 X (w.heap.size + 1) u) := ⟨h.a4.put u, h.kp.put4 (by omega) u⟩
/-- and one more set. -/
structure Iv (w X : World) (s : PS) (c : Nat) (v : Nat → Nat) : Prop where
  iw : Iw w X s no4
  c1 : w.heap.size + 1 < c
  a : A4 X c v
theorem Iv.new {w X : World} {s : PS} (h : Iw w X s no4) : Iv w (X.alloc (.cells (w4 no4) 28)) s X.heap.size no4 := ⟨h.kept ((Kp.refl _).alloc _), h.a4.lt, A4.new X no4 _⟩
theorem Iv.set {w X : World} {s : PS} {c : Nat} {v : Nat → Nat} (h : Iv w X s c v) (u : Nat → Nat) : Iv w (put4 X c u) s c u := by
  have hb : w.heap.size ≠ c := by have := h.c1; omega
  have hk : ∀ (Y : World) (o : Nat) (x : Value), (Y.setCell ⟨c, o, none⟩ x).heap[w.heap.size]? = Y.heap[w.heap.size]? := fun Y o x => Below.heap_setCell _ _ _ _ hb
  have hc := h.c1
  refine ⟨⟨?_, h.iw.a4.putFar (show w.heap.size + 1 ≠ c by omega) u, h.iw.kp.put4 (show w.heap.size ≤ c by omega) u⟩, h.c1, h.a.put u⟩
  unfold Bx put4
  rw [hk, hk, hk, hk]
  exact h.iw.bx
theorem Iv.kept {w X X' : World} {s : PS} {c : Nat} {v : Nat → Nat} (h : Iv w X s c v) (k : Kp X X') : Iv w X' s c v := ⟨h.iw.kept k, h.c1, h.a.kept k⟩
theorem Iv.call {w X : World} {s : PS} {c : Nat} {g : Nat → Nat} {f : FuncId} {args : Array Value} {r : Value} (h : Iv w X s c g) (hc : Calls Tryd.prog f args X fun e X' => e = .returned r ∧ Kp X X') : Calls Tryd.prog f args X fun e X' => e = .returned r ∧ Iv w X' s c g :=
  hc.mono fun e X' ⟨he, k⟩ => ⟨he, h.kept k⟩
theorem Iv.put {w X : World} {s : PS} {c : Nat} {v : Nat → Nat} (h : Iv w X s c v) (u : Nat → Nat) : Bx (put4 X (w.heap.size + 1) u) w.heap.size s ∧ A4 (put4 X (w.heap.size + 1) u) c v := by
  have hc := h.c1
  exact ⟨h.iw.bx2 u, h.a.putFar (show c ≠ w.heap.size + 1 by omega) u⟩
/-- and another one. -/
structure Iu (w X : World) (s : PS) (c d : Nat) (f g : Nat → Nat) : Prop where
  iw : Iw w X s no4
  c1 : w.heap.size + 1 < c
  d1 : w.heap.size + 1 < d
  cd : c ≠ d
  a : A4 X c f
  b : A4 X d g
theorem Iu.new {w X : World} {s : PS} {c : Nat} {v : Nat → Nat} (h : Iv w X s c v) : Iu w (X.alloc (.cells (w4 no4) 28)) s c X.heap.size v no4 := by
  have h1 := h.a.lt
  have h2 := h.c1
  exact ⟨h.iw.kept ((Kp.refl _).alloc _), h.c1, by omega, by omega, h.a.kept ((Kp.refl _).alloc _), A4.new X no4 _⟩
theorem Iu.swap {w X : World} {s : PS} {c d : Nat} {f g : Nat → Nat} (h : Iu w X s c d f g) : Iu w X s d c g f := ⟨h.iw, h.d1, h.c1, h.cd.symm, h.b, h.a⟩
theorem Iu.setA {w X : World} {s : PS} {c d : Nat} {f g : Nat → Nat} (h : Iu w X s c d f g) (u : Nat → Nat) : Iu w (put4 X c u) s c d u g := by
  have hb : w.heap.size ≠ c := by have := h.c1; omega
  have hc := h.c1
  have hcd := h.cd
  have hk : ∀ (Y : World) (o : Nat) (x : Value), (Y.setCell ⟨c, o, none⟩ x).heap[w.heap.size]? = Y.heap[w.heap.size]? := fun Y o x => Below.heap_setCell _ _ _ _ hb
  refine ⟨⟨?_, h.iw.a4.putFar (show w.heap.size + 1 ≠ c by omega) u, h.iw.kp.put4 (show w.heap.size ≤ c by omega) u⟩, h.c1, h.d1, h.cd, h.a.put u, h.b.putFar (show d ≠ c by omega) u⟩
  unfold Bx put4
  rw [hk, hk, hk, hk]
  exact h.iw.bx
theorem Iu.setB {w X : World} {s : PS} {c d : Nat} {f g : Nat → Nat} (h : Iu w X s c d f g) (u : Nat → Nat) : Iu w (put4 X d u) s c d f u := (h.swap.setA u).swap
theorem Iu.kept {w X X' : World} {s : PS} {c d : Nat} {f g : Nat → Nat} (h : Iu w X s c d f g) (k : Kp X X') : Iu w X' s c d f g := ⟨h.iw.kept k, h.c1, h.d1, h.cd, h.a.kept k, h.b.kept k⟩
theorem Iu.call {w X : World} {s : PS} {c d : Nat} {f g : Nat → Nat} {fn : FuncId} {args : Array Value} {r : Value} (h : Iu w X s c d f g) (hc : Calls Tryd.prog fn args X fun e X' => e = .returned r ∧ Kp X X') : Calls Tryd.prog fn args X fun e X' => e = .returned r ∧ Iu w X' s c d f g :=
  hc.mono fun e X' ⟨he, k⟩ => ⟨he, h.kept k⟩
theorem Iu.put {w X : World} {s : PS} {c d : Nat} {f g : Nat → Nat} (h : Iu w X s c d f g) (u : Nat → Nat) : Bx (put4 X (w.heap.size + 1) u) w.heap.size s ∧ A4 (put4 X (w.heap.size + 1) u) c f ∧ A4 (put4 X (w.heap.size + 1) u) d g := by
  have hc := h.c1
  have hd := h.d1
  exact ⟨h.iw.bx2 u, h.a.putFar (show c ≠ w.heap.size + 1 by omega) u, h.b.putFar (show d ≠ w.heap.size + 1 by omega) u⟩
/-- a state in a block, nothing else changed. -/
structure Ib (w X : World) (s : PS) : Prop where
  bx : Bx X w.heap.size s
  kp : Kp w X
theorem Ib.kept {w X X' : World} {s : PS} (h : Ib w X s) (k : Kp X X') : Ib w X' s := ⟨h.bx.kept k, h.kp.trans k⟩

end Go.Proofs.YtffbachgbcefiaaDoor
