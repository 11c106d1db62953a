/-
  A planner and the document's side by side (Bo), and what a call on one of them leaves; the laws' moved. Conditions: those of Bo.
-/
import Derived.Test.YtpeckfeiaomieaaAhRun
import Derived.Test.YtpeckfeiaomieaaAhRef2
namespace Go.Proofs.Ytpeckfeiaomieaa
open Go.RowKit Plain
set_option linter.unusedVariables false

structure Bo (w0 w : World) (a b : Nat) (S R : AS) (X : List Nat) : Prop where
  one : At w a S
  two : RAt w b R
  k1 : Ak S
  k2 : Ak R
  k : Kp w0 w
  l1 : w0.heap.size ≤ a
  l2 : w0.heap.size ≤ b
  ne : a ≠ b
  x : ∀ x ∈ X, x ≠ a ∧ x ≠ b ∧ x < w.heap.size
section
variable {w0 w w' : World} {a b : Nat} {S R S' R' : AS} {X : List Nat}
theorem Bo.kp (h : Bo w0 w a b S R X) (k : Kp w w') : Bo w0 w' a b S R X ∧ Lk X w w' :=
  ⟨⟨h.one.kp k, h.two.kp k, h.k1, h.k2, h.k.trans k, h.l1, h.l2, h.ne, fun x hx => ⟨(h.x x hx).1, (h.x x hx).2.1, Nat.lt_of_lt_of_le (h.x x hx).2.2 k.size⟩⟩, fun x hx => k.block x (h.x x hx).2.2⟩
theorem Bo.to1 (h : Bo w0 w a b S R X) (h1 : At w' a S') (h2 : Ak S') (k : Sp [a] w w') : Bo w0 w' a b S' R X ∧ Lk X w w' :=
  ⟨⟨h1, h.two.sp k (by simp; exact h.ne.symm), h2, h.k2, Sp.kp h.k k (fun t ht => by simp at ht; rw [ht]; exact h.l1), h.l1, h.l2, h.ne, fun x hx => ⟨(h.x x hx).1, (h.x x hx).2.1, Nat.lt_of_lt_of_le (h.x x hx).2.2 k.size⟩⟩, fun x hx => k.block x (h.x x hx).2.2 (by simp; exact (h.x x hx).1)⟩
theorem Bo.to2 (h : Bo w0 w a b S R X) (h1 : RAt w' b R') (h2 : Ak R') (k : Sp [b] w w') : Bo w0 w' a b S R' X ∧ Lk X w w' :=
  ⟨⟨h.one.sp k (by simp; exact h.ne), h1, h.k1, h2, Sp.kp h.k k (fun t ht => by simp at ht; rw [ht]; exact h.l2), h.l1, h.l2, h.ne, fun x hx => ⟨(h.x x hx).1, (h.x x hx).2.1, Nat.lt_of_lt_of_le (h.x x hx).2.2 k.size⟩⟩, fun x hx => k.block x (h.x x hx).2.2 (by simp; exact (h.x x hx).2.1)⟩
theorem Bo.note (h : Bo w0 w a b S R X) (n : Int) : Calls Try.prog 11 #[.pointer (some ⟨a, 0, none⟩), .int .i64 n] w fun x w' => x = .returned (.tuple #[.agg #[.int .i64 (ntF S n), .int .i64 (ntT S n)], .bool (ntB S n)]) ∧ Bo w0 w' a b (ntS S n) R X ∧ Lk X w w' := by
  refine (note_any h.one h.k1 n).mono ?_
  rintro e w' ⟨rfl, h1, k⟩
  exact ⟨rfl, h.to1 h1 (h.k1.nt n) k⟩
theorem Bo.rnote (h : Bo w0 w a b S R X) (n : Int) : Calls Try.prog 12 #[.pointer (some ⟨b, 0, none⟩), .int .i64 n] w fun x w' => x = .returned (.tuple #[.int .i64 (ntF R n), .int .i64 (ntT R n), .bool (ntB R n)]) ∧ Bo w0 w' a b S (ntS R n) X ∧ Lk X w w' := by
  refine (rnote_any h.two h.k2 n).mono ?_
  rintro e w' ⟨rfl, h1, k⟩
  exact ⟨rfl, h.to2 h1 (h.k2.nt n) k⟩
theorem Ak.ok {S : AS} (h : Ak S) : newOk S.B S.R S.M := ⟨⟨h.B1, h.B2⟩, ⟨h.R1, h.R2⟩, h.M1, h.M2⟩
theorem newOk.ak {B R M : Int} (h : newOk B R M) : Ak (newS B R M) := by
  obtain ⟨⟨g1, g2⟩, ⟨g3, g4⟩, g5, g6⟩ := h
  exact Ak.new g1 g2 g3 g4 g5 g6
theorem Bo.reset (h : Bo w0 w a b S R X) : Calls Try.prog 9 #[.pointer (some ⟨a, 0, none⟩)] w fun x w' => x = .returned (.tuple #[]) ∧ Bo w0 w' a b (newS S.B S.R S.M) R X ∧ Lk X w w' := by
  refine (reset_any h.one).mono ?_
  rintro e w' ⟨rfl, h1, k⟩
  exact ⟨rfl, h.to1 h1 h.k1.ok.ak k⟩
theorem Bo.rnew (h : Bo w0 w a b S R X) : Calls Try.prog 8 #[.int .i64 S.B, .int .i64 S.R, .int .i64 S.M] w fun x w' => ∃ b', x = .returned (.tuple #[.pointer (some ⟨b', 0, none⟩), .int .i64 0]) ∧ Bo w0 w' a b' S (newS S.B S.R S.M) X ∧ Lk X w w' := by
  refine (rnew_ok _ _ _ h.k1.ok w).mono ?_
  rintro e w' ⟨b', rfl, h1, k, l⟩
  refine ⟨b', rfl, ⟨h.one.kp k, h1, h.k1, h.k1.ok.ak, h.k.trans k, h.l1, Nat.le_trans h.k.size l, ?_, fun x hx => ⟨(h.x x hx).1, ?_, Nat.lt_of_lt_of_le (h.x x hx).2.2 k.size⟩⟩, fun x hx => k.block x (h.x x hx).2.2⟩
  · have := h.one.lt; omega
  · have := (h.x x hx).2.2; omega
/-- a new block beside both. -/
theorem Bo.more (h : Bo w0 w a b S R X) (k : Kp w w') {M : Nat} (h1 : w.heap.size ≤ M) (h2 : M < w'.heap.size) : Bo w0 w' a b S R (M :: X) := by
  have q := (h.kp k).1
  refine ⟨q.one, q.two, q.k1, q.k2, q.k, q.l1, q.l2, q.ne, fun x hx => ?_⟩
  rcases List.mem_cons.1 hx with rfl | hx
  · exact ⟨fun e => by have := h.one.lt; omega, fun e => by have := h.two.lt; omega, h2⟩
  · exact q.x x hx
theorem Bo.less (h : Bo w0 w a b S R X) {Y : List Nat} (hY : ∀ y ∈ Y, y ∈ X) : Bo w0 w a b S R Y := ⟨h.one, h.two, h.k1, h.k2, h.k, h.l1, h.l2, h.ne, fun x hx => h.x x (hY x hx)⟩
theorem Lk.less (h : Lk X w w') {Y : List Nat} (hY : ∀ y ∈ Y, y ∈ X) : Lk Y w w' := fun x hx => h x (hY x hx)
theorem Bo.new {p q r : Int} {V : World} (K : Kp w0 V) (h1 : At w a (newS p q r)) (k1 : Kp V w) (l1 : V.heap.size ≤ a) (ok : newOk p q r) (h2 : RAt w' b (newS p q r)) (k2 : Kp w w') (l2 : w.heap.size ≤ b) (hX : ∀ x ∈ X, x < V.heap.size) : Bo w0 w' a b (newS p q r) (newS p q r) X := by
  refine ⟨h1.kp k2, h2, ok.ak, ok.ak, (K.trans k1).trans k2, Nat.le_trans K.size l1, Nat.le_trans (K.trans k1).size l2, ?_, fun x hx => ⟨?_, ?_, ?_⟩⟩
  · have := h1.lt; omega
  · have := hX x hx; omega
  · have := hX x hx; have := k1.size; omega
  · exact Nat.lt_of_lt_of_le (hX x hx) (Nat.le_trans k1.size k2.size)
end
set_option maxRecDepth 100000 in
theorem moved_any (x y : Int) (w : World) : Calls Try.prog 10 #[.int .i64 x, .int .i64 y] w fun e w' => ∃ z, e = .returned (.int .i64 z) ∧ Kp w w' := by
  obtain ⟨m, hm⟩ : ∃ m, m = bits .and .i64 y 7 := ⟨_, rfl⟩
  have hb : bits .and .i64 y 7 = m := hm.symm
  clear hm
  by_cases h : 0 < m
  · go_enter Try.func10, Try.ntmps10
    go_wp2
    go_ret
    first | exact ⟨_, rfl, Kp.refl w⟩ | exact ⟨⟨_, rfl⟩, Kp.refl w⟩
  · go_enter Try.func10, Try.ntmps10
    go_wp2
    go_ret
    first | exact ⟨_, rfl, Kp.refl w⟩ | exact ⟨⟨_, rfl⟩, Kp.refl w⟩

end Go.Proofs.Ytpeckfeiaomieaa
