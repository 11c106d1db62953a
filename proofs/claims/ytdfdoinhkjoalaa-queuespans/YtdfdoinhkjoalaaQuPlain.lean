/-
  Items of a queue as plain data, their cells, a row of cells with others put in. Plain facts; no condition.
-/
import Derived.Test.YtdfdoinhkjoalaaQuFrm
namespace Go.Proofs.Ytdfdoinhkjoalaa
open Go.RowKit Plain
set_option linter.unusedVariables false

/-- an item: block, data, age. -/
structure It where
  b : Int
  d : ByteArray
  g : Int
def iz : It := ⟨0, noS, 0⟩
def iv : List It → List Value
  | [] => []
  | p :: l => .int .i64 p.b :: .string p.d :: .int .i64 p.g :: iv l
theorem iv_len : ∀ l, (iv l).length = l.length * 3
  | [] => rfl
  | p :: l => by simp only [iv, List.length_cons, iv_len l]; omega
theorem iv_app : ∀ l m, iv (l ++ m) = iv l ++ iv m
  | [], m => rfl
  | p :: l, m => by simp only [iv, List.cons_append, iv_app l m]
theorem iv_at : ∀ (l : List It) (i : Nat), i < l.length → (iv l)[i * 3]? = some (.int .i64 (l.getD i iz).b) ∧ (iv l)[i * 3 + 1]? = some (.string (l.getD i iz).d) ∧ (iv l)[i * 3 + 2]? = some (.int .i64 (l.getD i iz).g)
  | [], i, h => by simp at h
  | p :: l, 0, h => by simp [iv]
  | p :: l, i + 1, h => by
    have := iv_at l i (by simpa using h)
    rw [show (i + 1) * 3 = i * 3 + 1 + 1 + 1 by omega]
    simpa [iv] using this
theorem iv_one : ∀ (l : List It), ∀ u ∈ iv l, u.oneCell' = true
  | [], u, h => by simp [iv] at h
  | p :: l, u, h => by
    simp only [iv, List.mem_cons] at h
    rcases h with rfl | rfl | rfl | h
    · rfl
    · rfl
    · rfl
    · exact iv_one l u h
theorem iv_take : ∀ (l : List It) (i : Nat), (iv l).take (i * 3) = iv (l.take i)
  | [], i => by simp [iv]
  | p :: l, 0 => by simp [iv]
  | p :: l, i + 1 => by
    rw [show (i + 1) * 3 = i * 3 + 1 + 1 + 1 by omega]
    simp [iv, iv_take l i]
theorem iv_drop : ∀ (l : List It) (i : Nat), (iv l).drop (i * 3) = iv (l.drop i)
  | [], i => by simp [iv]
  | p :: l, 0 => by simp [iv]
  | p :: l, i + 1 => by
    rw [show (i + 1) * 3 = i * 3 + 1 + 1 + 1 by omega]
    simp [iv, iv_drop l i]
theorem it_at {l : List It} {i : Nat} (h : i < l.length) : l = l.take i ++ l.getD i iz :: l.drop (i + 1) := by
  rw [List.getD_eq_getElem?_getD, List.getElem?_eq_getElem h, Option.getD_some, ← List.drop_eq_getElem_cons h, List.take_append_drop]

/-- a row of cells with others put in. -/
def pu (cs : List Value) (o : Nat) (vs : List Value) : List Value := cs.take o ++ (vs ++ cs.drop (o + vs.length))
theorem pu_len {cs vs : List Value} {o : Nat} (h : o + vs.length ≤ cs.length) : (pu cs o vs).length = cs.length := by
  unfold pu
  simp only [List.length_append, List.length_take, List.length_drop]
  omega
theorem pu_app (A B vs : List Value) (o : Nat) (h : A.length = o) : pu (A ++ B) o vs = A ++ (vs ++ B.drop vs.length) := by
  subst h
  unfold pu
  rw [List.take_left, ← List.drop_drop, List.drop_left]
theorem pu_nil (cs : List Value) (o : Nat) : pu cs o [] = cs := by unfold pu; simp
theorem pu_cons {cs : List Value} {o : Nat} (v : Value) (r : List Value) (h : o < cs.length) : pu (cs.set o v) (o + 1) r = pu cs o (v :: r) := by
  have e : cs = cs.take o ++ cs[o] :: cs.drop (o + 1) := by rw [← List.drop_eq_getElem_cons h, List.take_append_drop]
  have hl : (cs.take o).length = o := by rw [List.length_take]; omega
  obtain ⟨A, hA⟩ : ∃ A, A = cs.take o := ⟨_, rfl⟩
  obtain ⟨B, hB⟩ : ∃ B, B = cs.drop (o + 1) := ⟨_, rfl⟩
  obtain ⟨y, hy⟩ : ∃ y, y = cs[o] := ⟨_, rfl⟩
  rw [← hA] at hl
  rw [← hA, ← hB, ← hy] at e
  rw [e]
  clear e hA hB hy
  subst hl
  rw [List.set_append_right _ _ (Nat.le_refl _), Nat.sub_self, List.set_cons_zero]
  rw [show A ++ v :: B = (A ++ [v]) ++ B by simp, pu_app (A ++ [v]) B r (A.length + 1) (by simp), pu_app A (y :: B) (v :: r) A.length rfl]
  simp

/-- a row of a block of its own, of cap elements of three cells each. -/
structure Rr (w : World) (g : Nat) (e : TypeId) (cap : Nat) (cs : List Value) : Prop where
  h : w.heap[g]? = some (.cells cs.toArray e (0, 0))
  n : cs.length = cap * 3
section
variable {w : World} {g : Nat} {e : TypeId} {cap : Nat} {cs : List Value}
theorem Rr.low (R : Rr w g e cap cs) : g < w.heap.size := (Array.getElem?_eq_some_iff.1 R.h).1
theorem Rr.cell (R : Rr w g e cap cs) (j : Nat) : w.cell? ⟨g, j, none⟩ = cs[j]? := by
  unfold World.cell?
  simp [R.h]
theorem Rr.there (R : Rr w g e cap cs) (j : Nat) (hj : j < cap * 3) : (w.cell? ⟨g, j, none⟩).isSome = true := by
  rw [R.cell, List.getElem?_eq_getElem (by rw [R.n]; exact hj)]; rfl
theorem Rr.frozen (R : Rr w g e cap cs) (j : Nat) : w.frozen? ⟨g, j, none⟩ = false := by
  unfold World.frozen?
  simp [R.h]
theorem Rr.shape (R : Rr w g e cap cs) : w.shape? g = some (e, cap * 3) := by
  unfold World.shape?
  simp [R.h, R.n]
theorem Rr.drew (R : Rr w g e cap cs) : Rr w.drew g e cap cs := ⟨R.h, R.n⟩
theorem Rr.sp {w' : World} {T : List Nat} (R : Rr w g e cap cs) (k : Sp T w w') (hg : g ∉ T) : Rr w' g e cap cs := ⟨(k.block g R.low hg).trans R.h, R.n⟩
theorem Rr.kept {w' : World} (R : Rr w g e cap cs) (k : Kp w w') : Rr w' g e cap cs := ⟨(k.block g R.low).trans R.h, R.n⟩
theorem Rr.set (R : Rr w g e cap cs) (o : Nat) (v : Value) : Rr (w.setCell ⟨g, o, none⟩ v) g e cap (cs.set o v) := by
  refine ⟨?_, by rw [List.length_set]; exact R.n⟩
  rw [setCell_eq_setRow w g o _ e (0, 0) v R.h, setRow_heap w g _ _ e _ R.h]
  simp
theorem Rr.sets (e : TypeId) (g cap : Nat) : ∀ (vs : List Value) (o : Nat) (w : World) (cs : List Value), Rr w g e cap cs → o + vs.length ≤ cap * 3 → Rr (w.setCells g o vs) g e cap (pu cs o vs)
  | [], o, w, cs, R, _ => by rw [pu_nil]; exact R
  | v :: r, o, w, cs, R, h => by
    rw [World.setCells]
    have := Rr.sets e g cap r (o + 1) _ _ (R.set o v) (by simp only [List.length_cons] at h; omega)
    rwa [pu_cons v r (by simp only [List.length_cons] at h; rw [R.n]; omega)] at this
theorem Rr.new (w : World) (cs : List Value) (e : TypeId) (cap : Nat) (hn : cs.length = cap * 3) (k : Nat) (hk : k = w.heap.size) : Rr (w.alloc (.cells cs.toArray e)) k e cap cs := by
  refine ⟨?_, hn⟩
  subst hk
  unfold World.alloc
  exact Array.getElem?_push_size
end

end Go.Proofs.Ytdfdoinhkjoalaa
