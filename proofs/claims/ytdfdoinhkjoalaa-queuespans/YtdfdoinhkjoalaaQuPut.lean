/-
  Put on plain lists, and contracts of Put, Get and Take. Conditions: that the object lies in memory as QX says.
-/
import Derived.Test.YtdfdoinhkjoalaaQuSec
import Derived.Deep.RegionWith
namespace Go.Proofs.Ytdfdoinhkjoalaa
open Go.RowKit Plain
set_option linter.unusedVariables false

def hsI (l : List It) (b : Int) : Bool := l.any (fun x => decide (x.b = b))
def getL (l : List It) (b : Int) : Option It := l.find? (fun x => decide (x.b = b))
def delL (l : List It) (b : Int) : List It := l.filter (fun x => !decide (x.b = b))
def putL (b : Int) (d : ByteArray) (g : Int) : List It → List It
  | [] => [⟨b, d, g⟩]
  | x :: l => if x.b < b then x :: putL b d g l else if x.b = b then ⟨b, d, x.g⟩ :: l else ⟨b, d, g⟩ :: x :: l
theorem put_app (b : Int) (d : ByteArray) (g : Int) (B : List It) : ∀ (A : List It), (∀ x ∈ A, x.b < b) → putL b d g (A ++ B) = A ++ putL b d g B
  | [], _ => rfl
  | x :: A, h => by
    rw [List.cons_append, putL, if_pos (h x (by simp)), put_app b d g B A (fun y hy => h y (by simp [hy]))]
    rfl
/-- what a search tells, of a list that rises. -/
theorem fd_hit {l : List It} (hs : Sr l) {b : Int} {i : Nat} (h : Fd l b i) (ha : isAt l b i = true) : ∃ A y B, l = A ++ y :: B ∧ A.length = i ∧ l.getD i iz = y ∧ y.b = b ∧ (∀ x ∈ A, x.b < b) ∧ ∀ x ∈ B, b < x.b := by
  unfold isAt at ha
  rw [Bool.and_eq_true, decide_eq_true_eq, decide_eq_true_eq] at ha
  have e := it_at ha.1
  refine ⟨l.take i, l.getD i iz, l.drop (i + 1), e, by rw [List.length_take]; omega, rfl, ha.2, h.2.1, fun x hx => ?_⟩
  rw [Sr, e, List.pairwise_append, List.pairwise_cons] at hs
  have := hs.2.1.1 x hx
  omega
theorem fd_miss {l : List It} {b : Int} {i : Nat} (h : Fd l b i) (hs : Sr l) (ha : isAt l b i = false) : ∃ A B, l = A ++ B ∧ A.length = i ∧ (∀ x ∈ A, x.b < b) ∧ ∀ x ∈ B, b < x.b := by
  refine ⟨l.take i, l.drop i, (List.take_append_drop i l).symm, by rw [List.length_take]; have := h.1; omega, h.2.1, fun x hx => ?_⟩
  have h1 := h.2.2 x hx
  by_cases hi : i < l.length
  · unfold isAt at ha
    rw [decide_eq_true hi, Bool.true_and, decide_eq_false_iff_not] at ha
    have e := List.drop_eq_getElem_cons hi
    have hy : l.getD i iz = l[i] := by rw [List.getD_eq_getElem?_getD, List.getElem?_eq_getElem hi]; rfl
    have h2 := h.2.2 l[i] (by rw [e]; exact List.mem_cons_self)
    rw [hy] at ha
    rw [e] at hx
    rcases List.mem_cons.1 hx with rfl | hx
    · omega
    · have := List.pairwise_iff_getElem.1 hs
      obtain ⟨j, hj, rfl⟩ := List.getElem_of_mem hx
      rw [List.getElem_drop]
      rw [List.length_drop] at hj
      have := this i (i + 1 + j) hi (by omega) (by omega)
      omega
  · rw [List.drop_eq_nil_of_le (by omega)] at hx
    cases hx
theorem hs_hit {A B : List It} {y : It} {b : Int} (hy : y.b = b) : hsI (A ++ y :: B) b = true := by unfold hsI; simp [hy]
theorem hs_miss {A B : List It} {b : Int} (hA : ∀ x ∈ A, x.b < b) (hB : ∀ x ∈ B, b < x.b) : hsI (A ++ B) b = false := by
  unfold hsI
  rw [List.any_eq_false]
  intro x hx
  rw [decide_eq_true_eq]
  rcases List.mem_append.1 hx with h | h
  · have := hA x h; omega
  · have := hB x h; omega
theorem is_hs {l : List It} (hs : Sr l) {b : Int} {i : Nat} (h : Fd l b i) : isAt l b i = hsI l b := by
  cases ha : isAt l b i with
  | true =>
    obtain ⟨A, y, B, rfl, _, _, hy, hA, hB⟩ := fd_hit hs h ha
    exact (hs_hit hy).symm
  | false =>
    obtain ⟨A, B, rfl, _, hA, hB⟩ := fd_miss h hs ha
    exact (hs_miss hA hB).symm
theorem get_hit {A B : List It} {y : It} {b : Int} (hA : ∀ x ∈ A, x.b < b) (hy : y.b = b) : getL (A ++ y :: B) b = some y := by
  unfold getL
  rw [List.find?_append, List.find?_eq_none.2 (fun x hx => by have := hA x hx; simp; omega)]
  simp [hy]
theorem get_miss {l : List It} {b : Int} (h : hsI l b = false) : getL l b = none := by
  unfold hsI at h
  rw [List.any_eq_false] at h
  exact List.find?_eq_none.2 h
theorem filt_all {l : List It} {b : Int} (h : ∀ x ∈ l, x.b ≠ b) : delL l b = l := List.filter_eq_self.2 (fun x hx => by have := h x hx; simp [this])
theorem del_hit {A B : List It} {y : It} {b : Int} (hA : ∀ x ∈ A, x.b < b) (hy : y.b = b) (hB : ∀ x ∈ B, b < x.b) : delL (A ++ y :: B) b = A ++ B := by
  unfold delL
  rw [List.filter_append, List.filter_cons_of_neg (by simp [hy])]
  have h1 : delL A b = A := filt_all (fun x hx => by have := hA x hx; omega)
  have h2 : delL B b = B := filt_all (fun x hx => by have := hB x hx; omega)
  unfold delL at h1 h2
  rw [h1, h2]
theorem put_hit {A B : List It} {y : It} {b : Int} (d : ByteArray) (g : Int) (hA : ∀ x ∈ A, x.b < b) (hy : y.b = b) : putL b d g (A ++ y :: B) = A ++ ⟨b, d, y.g⟩ :: B := by
  rw [put_app b d g _ A hA, putL, if_neg (by omega), if_pos hy]
theorem put_miss {A B : List It} {b : Int} (d : ByteArray) (g : Int) (hA : ∀ x ∈ A, x.b < b) (hB : ∀ x ∈ B, b < x.b) : putL b d g (A ++ B) = A ++ ⟨b, d, g⟩ :: B := by
  rw [put_app b d g _ A hA]
  cases B with
  | nil => rfl
  | cons x B =>
    have := hB x (by simp)
    rw [putL, if_neg (by omega), if_neg (by omega)]
/-- any list that rises is parted by a block. -/
theorem parted (b : Int) : ∀ (l : List It), Sr l → (∃ A y B, l = A ++ y :: B ∧ y.b = b ∧ (∀ x ∈ A, x.b < b) ∧ ∀ x ∈ B, b < x.b) ∨ ∃ A B, l = A ++ B ∧ (∀ x ∈ A, x.b < b) ∧ ∀ x ∈ B, b < x.b
  | [], _ => .inr ⟨[], [], rfl, by simp, by simp⟩
  | x :: l, h => by
    rw [Sr, List.pairwise_cons] at h
    by_cases h1 : x.b < b
    · rcases parted b l h.2 with ⟨A, y, B, rfl, q1, q2, q3⟩ | ⟨A, B, rfl, q2, q3⟩
      · exact .inl ⟨x :: A, y, B, rfl, q1, fun z hz => by rcases List.mem_cons.1 hz with rfl | hz; exact h1; exact q2 z hz, q3⟩
      · exact .inr ⟨x :: A, B, rfl, fun z hz => by rcases List.mem_cons.1 hz with rfl | hz; exact h1; exact q2 z hz, q3⟩
    · by_cases h2 : x.b = b
      · exact .inl ⟨[], x, l, rfl, h2, by simp, fun z hz => by have := h.1 z hz; omega⟩
      · exact .inr ⟨[], x :: l, rfl, by simp, fun z hz => by
          rcases List.mem_cons.1 hz with rfl | hz
          · omega
          · have := h.1 z hz; omega⟩

/-- what Put answers. -/
def ptE (S : QS) (b : Int) (d : ByteArray) : Int := if b < 0 ∨ 1099511627776 ≤ b then 3 else if d.size ≠ 64 then 4 else if hsI S.L b = true then 0 else if S.m ≤ S.L.length then 10 else 0
def ptS (S : QS) (b : Int) (d : ByteArray) : QS := if ptE S b d = 0 then ⟨putL b d S.c S.L, S.m, S.c + 1⟩ else S
/-- a queue as they come. -/
structure Qg (S : QS) : Prop where
  sr : Sr S.L
  len : S.L.length ≤ S.m
  m1 : 1 ≤ S.m
  m2 : S.m ≤ 256
  c0 : 0 ≤ S.c
  cm : S.c ≤ 1000000000
theorem Qg.l {S : QS} (h : Qg S) : S.L.length ≤ 1000 := by have := h.len; have := h.m2; omega
theorem Qg.m {S : QS} (h : Qg S) : S.m ≤ 1000 := by have := h.m2; omega

theorem QX.at {w0 w : World} {a : Nat} {T : List Nat} {S : QS} (h : QX w0 w a T S) {i : Nat} (hi : i < S.L.length) : ∃ g cap, T = [a, g] ∧ g ≠ a ∧ S.L.length ≤ cap ∧ cap ≤ 9223372036854775807 ∧ w.cell? ⟨a, 0, none⟩ = some (.slice (some ⟨g, 0, none⟩) S.L.length cap) ∧ w.cell? ⟨a, 2, none⟩ = some (.int .i64 S.c) ∧ w.cell? ⟨g, i * 3, none⟩ = some (.int .i64 (S.L.getD i iz).b) ∧ w.cell? ⟨g, i * 3 + 1, none⟩ = some (.string (S.L.getD i iz).d) ∧ w.cell? ⟨g, i * 3 + 2, none⟩ = some (.int .i64 (S.L.getD i iz).g) ∧ (∀ j, w.frozen? ⟨a, j, none⟩ = false) ∧ ∀ j, w.frozen? ⟨g, j, none⟩ = false := by
  obtain ⟨v, rfl, h1, h2, h3, h4, h5⟩ := h
  rcases h3.row with ⟨rfl, hl0⟩ | ⟨g, cap, cs, rfl, _, R, hle, hcm, ht⟩
  · rw [hl0] at hi; simp at hi
  · have hq := iv_at S.L i hi
    refine ⟨g, cap, by simp [Value.ownBlock], fun e => h4 (by rw [← e]; rfl), hle, by unfold maxLen at hcm; omega, cell_of h1 0, cell_of h1 2, ?_, ?_, ?_, frozen_of h1, R.frozen⟩
    · rw [World.ownsRow.cellAt h3 (i * 3) (by omega)]; exact hq.1
    · rw [World.ownsRow.cellAt h3 (i * 3 + 1) (by omega)]; exact hq.2.1
    · rw [World.ownsRow.cellAt h3 (i * 3 + 2) (by omega)]; exact hq.2.2
/-- an item's data stored. -/
theorem QX.data {w0 w : World} {a : Nat} {T : List Nat} {S : QS} (h : QX w0 w a T S) {A B : List It} {y : It} (hL : S.L = A ++ y :: B) (d : ByteArray) {g cap : Nat} (hg : w.cell? ⟨a, 0, none⟩ = some (.slice (some ⟨g, 0, none⟩) S.L.length cap)) : QX w0 (w.setCell ⟨g, A.length * 3 + 1, none⟩ (.string d)) a T ⟨A ++ ⟨y.b, d, y.g⟩ :: B, S.m, S.c⟩ ∧ Sp T w (w.setCell ⟨g, A.length * 3 + 1, none⟩ (.string d)) := by
  obtain ⟨v, rfl, h1, h2, h3, h4, h5⟩ := h
  have c0 := cell_of h1 0
  rw [hg] at c0
  obtain rfl : Value.slice (some ⟨g, 0, none⟩) S.L.length cap = v := by simpa using c0
  have hag : a ≠ g := fun e => h4 (by rw [e]; rfl)
  rcases h3.row with ⟨h, _⟩ | ⟨g', cap', cs, he, hb, R, hle, hcm, ht⟩
  · cases h
  · obtain ⟨rfl, rfl⟩ : g = g' ∧ cap = cap' := by simpa using he
    have hlen : (A ++ (⟨y.b, d, y.g⟩ : It) :: B).length = S.L.length := by rw [hL]; simp
    have k : Sp [g] w (w.setCell ⟨g, A.length * 3 + 1, none⟩ (.string d)) := (Sp.refl _ _).set g _ (by simp) _
    refine ⟨⟨_, rfl, (k.block a (heap_lt h1) (by simpa using hag)).trans h1, h2, ?_, h4, Nat.le_trans h5 k.size⟩, k.mono (fun t ht => by simp at ht; subst ht; simp [Value.ownBlock])⟩
    refine Oi.of (R.set _ _) hb (by show (A ++ (⟨y.b, d, y.g⟩ : It) :: B).length ≤ cap; rw [hlen]; exact hle) hcm ?_ _ hlen.symm
    show List.take ((A ++ (⟨y.b, d, y.g⟩ : It) :: B).length * 3) _ = iv (A ++ ⟨y.b, d, y.g⟩ :: B)
    rw [hlen, List.take_set, ht, hL, iv_app, iv_app, List.set_append_right _ _ (by rw [iv_len]; omega), iv_len, show A.length * 3 + 1 - A.length * 3 = 1 by omega]
    rfl
theorem QX.clock {w0 w : World} {a : Nat} {T : List Nat} {S : QS} (h : QX w0 w a T S) (c : Int) : QX w0 (w.setCell ⟨a, 2, none⟩ (.int .i64 c)) a T ⟨S.L, S.m, c⟩ ∧ Sp T w (w.setCell ⟨a, 2, none⟩ (.int .i64 c)) := by
  obtain ⟨v, rfl, h1, h2, h3, h4, h5⟩ := h
  have k : Sp [a] w (w.setCell ⟨a, 2, none⟩ (.int .i64 c)) := (Sp.refl _ _).set a _ (by simp) _
  exact ⟨⟨v, rfl, heap_set h1 2 _, h2, h3.sp k (fun g hg e => h4 (by simp at e; rw [← e]; exact hg)), h4, Nat.le_trans h5 k.size⟩, k.mono (fun t ht => by simp at ht; subst ht; simp)⟩

end Go.Proofs.Ytdfdoinhkjoalaa
