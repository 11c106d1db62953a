/-
  Keys that wait as plain data, their cells, a row of cells with others put in. Plain facts; no condition.
-/
import Derived.Test.YtcmomebjkbhboaaQuFrm
namespace Go.Proofs.Ytcmomebjkbhboaa
open Go.RowKit Plain
set_option linter.unusedVariables false

/-- a key that waits, and how many Picks were made meanwhile. -/
structure Wt where
  k : Int
  n : Int
def wz : Wt := ⟨0, 0⟩
def wv : List Wt → List Value
  | [] => []
  | p :: l => .int .i64 p.k :: .int .i64 p.n :: wv l
theorem wv_len : ∀ l, (wv l).length = l.length * 2
  | [] => rfl
  | p :: l => by simp only [wv, List.length_cons, wv_len l]; omega
theorem wv_app : ∀ l m, wv (l ++ m) = wv l ++ wv m
  | [], m => rfl
  | p :: l, m => by simp only [wv, List.cons_append, wv_app l m]
theorem wv_at : ∀ (l : List Wt) (i : Nat), i < l.length → (wv l)[i * 2]? = some (.int .i64 (l.getD i wz).k) ∧ (wv l)[i * 2 + 1]? = some (.int .i64 (l.getD i wz).n)
  | [], i, h => by simp at h
  | p :: l, 0, h => by simp [wv]
  | p :: l, i + 1, h => by
    have := wv_at l i (by simpa using h)
    rw [show (i + 1) * 2 = i * 2 + 1 + 1 by omega]
    simpa [wv] using this
theorem wv_one : ∀ (l : List Wt), ∀ u ∈ wv l, u.oneCell' = true
  | [], u, h => by simp [wv] at h
  | p :: l, u, h => by
    simp only [wv, List.mem_cons] at h
    rcases h with rfl | rfl | h
    · rfl
    · rfl
    · exact wv_one l u h
theorem wv_take : ∀ (l : List Wt) (i : Nat), (wv l).take (i * 2) = wv (l.take i)
  | [], i => by simp [wv]
  | p :: l, 0 => by simp [wv]
  | p :: l, i + 1 => by
    rw [show (i + 1) * 2 = i * 2 + 1 + 1 by omega]
    simp [wv, wv_take l i]
theorem wv_drop : ∀ (l : List Wt) (i : Nat), (wv l).drop (i * 2) = wv (l.drop i)
  | [], i => by simp [wv]
  | p :: l, 0 => by simp [wv]
  | p :: l, i + 1 => by
    rw [show (i + 1) * 2 = i * 2 + 1 + 1 by omega]
    simp [wv, wv_drop l i]
theorem wt_at {l : List Wt} {i : Nat} (h : i < l.length) : l = l.take i ++ l.getD i wz :: l.drop (i + 1) := by
  rw [List.getD_eq_getElem?_getD, List.getElem?_eq_getElem h, Option.getD_some, ← List.drop_eq_getElem_cons h, List.take_append_drop]
theorem take_wt {l : List Wt} {i : Nat} (h : i < l.length) : l.take (i + 1) = l.take i ++ [l.getD i wz] := by
  rw [List.take_add_one, List.getElem?_eq_getElem h, List.getD_eq_getElem?_getD, List.getElem?_eq_getElem h]
  rfl

/-- a row of cells with others put in. -/
def pu (cs : List Value) (o : Nat) (vs : List Value) : List Value := cs.take o ++ (vs ++ cs.drop (o + vs.length))
theorem pu_len {cs vs : List Value} {o : Nat} (h : o + vs.length ≤ cs.length) : (pu cs o vs).length = cs.length := by
  unfold pu
  simp only [List.length_append, List.length_take, List.length_drop]
  omega
theorem pu_app (A B vs : List Value) (o : Nat) (h : A.length = o) : pu (A ++ B) o vs = A ++ (vs ++ B.drop vs.length) := by
  subst h
  unfold pu
  rw [List.take_left, ← List.drop_drop, List.drop_left]
theorem pu_nil (cs : List Value) (o : Nat) : pu cs o [] = cs := by unfold pu; simp
theorem pu_cons {cs : List Value} {o : Nat} (v : Value) (r : List Value) (h : o < cs.length) : pu (cs.set o v) (o + 1) r = pu cs o (v :: r) := by
  have e : cs = cs.take o ++ cs[o] :: cs.drop (o + 1) := by rw [← List.drop_eq_getElem_cons h, List.take_append_drop]
  have hl : (cs.take o).length = o := by rw [List.length_take]; omega
  obtain ⟨A, hA⟩ : ∃ A, A = cs.take o := ⟨_, rfl⟩
  obtain ⟨B, hB⟩ : ∃ B, B = cs.drop (o + 1) := ⟨_, rfl⟩
  obtain ⟨y, hy⟩ : ∃ y, y = cs[o] := ⟨_, rfl⟩
  rw [← hA] at hl
  rw [← hA, ← hB, ← hy] at e
  rw [e]
  clear e hA hB hy
  subst hl
  rw [List.set_append_right _ _ (Nat.le_refl _), Nat.sub_self, List.set_cons_zero]
  rw [show A ++ v :: B = (A ++ [v]) ++ B by simp, pu_app (A ++ [v]) B r (A.length + 1) (by simp), pu_app A (y :: B) (v :: r) A.length rfl]
  simp

/-- a row of a block of its own, of cap elements of two cells each. -/
structure Rr (w : World) (g : Nat) (e : TypeId) (cap : Nat) (cs : List Value) : Prop where
  h : w.heap[g]? = some (.cells cs.toArray e (0, 0))
  n : cs.length = cap * 2
section
variable {w : World} {g : Nat} {e : TypeId} {cap : Nat} {cs : List Value}
theorem Rr.low (R : Rr w g e cap cs) : g < w.heap.size := (Array.getElem?_eq_some_iff.1 R.h).1
theorem Rr.cell (R : Rr w g e cap cs) (j : Nat) : w.cell? ⟨g, j, none⟩ = cs[j]? := by
  unfold World.cell?
  simp [R.h]
theorem Rr.there (R : Rr w g e cap cs) (j : Nat) (hj : j < cap * 2) : (w.cell? ⟨g, j, none⟩).isSome = true := by
  rw [R.cell, List.getElem?_eq_getElem (by rw [R.n]; exact hj)]; rfl
theorem Rr.frozen (R : Rr w g e cap cs) (j : Nat) : w.frozen? ⟨g, j, none⟩ = false := by
  unfold World.frozen?
  simp [R.h]
theorem Rr.drew (R : Rr w g e cap cs) : Rr w.drew g e cap cs := ⟨R.h, R.n⟩
theorem Rr.sp {w' : World} {T : List Nat} (R : Rr w g e cap cs) (k : Sp T w w') (hg : g ∉ T) : Rr w' g e cap cs := ⟨(k.block g R.low hg).trans R.h, R.n⟩
theorem Rr.kept {w' : World} (R : Rr w g e cap cs) (k : Kp w w') : Rr w' g e cap cs := ⟨(k.block g R.low).trans R.h, R.n⟩
theorem Rr.set (R : Rr w g e cap cs) (o : Nat) (v : Value) : Rr (w.setCell ⟨g, o, none⟩ v) g e cap (cs.set o v) := by
  refine ⟨?_, by rw [List.length_set]; exact R.n⟩
  rw [setCell_eq_setRow w g o _ e (0, 0) v R.h, setRow_heap w g _ _ e _ R.h]
  simp
theorem Rr.sets (e : TypeId) (g cap : Nat) : ∀ (vs : List Value) (o : Nat) (w : World) (cs : List Value), Rr w g e cap cs → o + vs.length ≤ cap * 2 → Rr (w.setCells g o vs) g e cap (pu cs o vs)
  | [], o, w, cs, R, _ => by rw [pu_nil]; exact R
  | v :: r, o, w, cs, R, h => by
    rw [World.setCells]
    have := Rr.sets e g cap r (o + 1) _ _ (R.set o v) (by simp only [List.length_cons] at h; omega)
    rwa [pu_cons v r (by simp only [List.length_cons] at h; rw [R.n]; omega)] at this
end

end Go.Proofs.Ytcmomebjkbhboaa
