/-
  A span in a box of the call's own (Bx), and put with one piece and with two. Conditions: that the boxes hold the spans.
-/
import Derived.Test.YtdfdoinhkjoalaaSpMeet
import Derived.Deep.RegionLaw
import Derived.Deep.DeepCutAuto
namespace Go.Proofs.Ytdfdoinhkjoalaa
open Go.RowKit Plain
set_option linter.unusedVariables false

/-- a span's box. -/
def Bx (w : World) (b : Nat) (p : (Int × Int)) : Prop := w.heap[b]? = some (.cells #[.int .i64 p.1, .int .i64 p.2] 76 (0, 0))
theorem Bx.new (w : World) (p : (Int × Int)) : Bx (w.alloc (.cells #[.int .i64 p.1, .int .i64 p.2] 76)) w.heap.size p := heap_alloc_new w _
theorem Bx.lt {w : World} {b : Nat} {p : (Int × Int)} (h : Bx w b p) : b < w.heap.size := (Array.getElem?_eq_some_iff.1 h).1
theorem Bx.c0 {w : World} {b : Nat} {p : (Int × Int)} (h : Bx w b p) : w.cell? ⟨b, 0, none⟩ = some (.int .i64 p.1) := by rw [cell_of_row w b 0 _ _ _ h]; rfl
theorem Bx.c1 {w : World} {b : Nat} {p : (Int × Int)} (h : Bx w b p) : w.cell? ⟨b, 1, none⟩ = some (.int .i64 p.2) := by rw [cell_of_row w b 1 _ _ _ h]; rfl
theorem Bx.z {w : World} {b : Nat} {p : (Int × Int)} (h : Bx w b p) (o : Nat) : w.frozen? ⟨b, o, none⟩ = false := frozen_of_row w b o _ _ h
theorem Bx.kept {w w' : World} {b : Nat} {p : (Int × Int)} (h : Bx w b p) (k : Kp w w') : Bx w' b p := (k.block b h.lt).trans h
theorem Bx.grown {w w' : World} {b : Nat} {p : (Int × Int)} {row : Option Nat} (h : Bx w b p) (g : w.grownBy w' row) (hr : ∀ k, row = some k → k ≠ b) : Bx w' b p := (g.block b h.lt (fun e => hr b e.symm rfl)).trans h
def put2 (w : World) (b : Nat) (q : (Int × Int)) : World := (w.setCell ⟨b, 0, none⟩ (.int .i64 q.1)).setCell ⟨b, 1, none⟩ (.int .i64 q.2)
theorem Bx.put {w : World} {b : Nat} {p : (Int × Int)} (h : Bx w b p) (q : (Int × Int)) : Bx (put2 w b q) b q := by
  have h1 := heap_setCell_same w b 0 _ _ (.int .i64 q.1) h
  have h2 := heap_setCell_same _ b 1 _ _ (.int .i64 q.2) h1
  exact h2
theorem Kp.put2 {a w : World} (h : Kp a w) {b : Nat} (hb : a.heap.size ≤ b) (q : (Int × Int)) : Kp a (put2 w b q) := (Below.setCell (Below.setCell h (p := ⟨b, 0, none⟩) hb _) (p := ⟨b, 1, none⟩) hb _)
theorem Own.put2 {w : World} {base : Nat} {e : TypeId} {v : Value} {l : List (Int × Int)} (h : Own w base e v l) {b : Nat} (hb : b < base) (q : (Int × Int)) : Own (put2 w b q) base e v l := ownsRow_setCell_below (ownsRow_setCell_below h (a := ⟨b, 0, none⟩) hb _) (a := ⟨b, 1, none⟩) hb _

/-- an append of spans as one step of a region that draws. -/
theorem step_append_sp {ops : Array Oper} {o : Oper} {a : Act} {w : World} {K : Act → World → Prop} {Q : Exit → Act → World → Prop} {E : Prop} (hgd : o.guard = none) (s x : Operand) (t : TypeId)
    (ho : o.op = .call { callee := .builtin .append, args := #[s, x], argTypes := #[t, t] })
    (base : Nat) (e : TypeId) (he : Elt t e) (v : Value) (l : List (Int × Int)) (hs : a.eval s = v) (hown : Own w base e v l) (vx : Value) (m : List (Int × Int)) (hx : a.eval x = vx) (hm : SpIn w vx m)
    (hlen : l.length + m.length ≤ 1099511627776) (hbase : base ≤ w.heap.size)
    (cont : ∀ v' w', Own w' base e v' (l ++ m) → w.grownBy w' v.ownBlock → (v'.ownBlock = v.ownBlock ∨ v'.ownBlock = some w.heap.size) → K (a.put o.dst v') w') :
    if Region.wanted o (yielded ops a.tmps) = true then Oper.wp Try.prog o a w K Q else E := by
  have hw : Region.wanted o (yielded ops a.tmps) = true := by simp [Region.wanted, hgd]
  rw [if_pos hw]
  obtain ⟨v', w', hrun, h1, h2, h3⟩ := run_append_sp t o.type base e he v l hown vx m hm hlen hbase
  unfold Oper.wp
  simp [execOp, ho, resolve, invoke, builtin, hs, hx, hrun, Result.andThen]
  exact cont v' w' h1 h2 h3

end Go.Proofs.Ytdfdoinhkjoalaa
