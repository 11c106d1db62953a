/-
  Objects of the call's own, as many as there are, and two side by side: each one's blocks apart. No condition.
-/
import Derived.Test.YtmklkdopmemfaaaByPlain
namespace Go.Proofs.Ytmklkdopmemfaaa
open Go.RowKit Plain
set_option linter.unusedVariables false

/-- an object's law: its blocks are there, and new; it stays where others are turned. -/
structure OL {σ : Type} (O : World → World → Nat → List Nat → σ → Prop) : Prop where
  low : ∀ {w0 w : World} {b : Nat} {T : List Nat} {S : σ}, O w0 w b T S → ∀ t, t ∈ T → t < w.heap.size
  new : ∀ {w0 w : World} {b : Nat} {T : List Nat} {S : σ}, O w0 w b T S → ∀ t, t ∈ T → w0.heap.size ≤ t
  sp : ∀ {w0 w w' : World} {b : Nat} {T T' : List Nat} {S : σ}, O w0 w b T S → Sp T' w w' → (∀ t, t ∈ T → t ∉ T') → O w0 w' b T S
/-- behind a call on it. -/
def Nz {σ : Type} (O : World → World → Nat → List Nat → σ → Prop) (w0 w w' : World) (b : Nat) (T : List Nat) (S : σ) : Prop := ∃ T', O w0 w' b T' S ∧ Sp T w w' ∧ Nw w T T'
theorem OL.ow : OL Ow := ⟨fun h => h.low, fun h => h.new, fun h k hT => h.sp k hT⟩
theorem Nz.below {σ : Type} {O : World → World → Nat → List Nat → σ → Prop} (L : OL O) {w0 w w' : World} {b : Nat} {T : List Nat} {S S' : σ} (h : Nz O w0 w w' b T S) (h0 : O w0 w b T S') (k : Kp w0 w) : Kp w0 w' := by
  obtain ⟨T', h1, h2, h3⟩ := h
  exact Sp.kp k h2 (L.new h0)
theorem Nz.refl {σ : Type} {O : World → World → Nat → List Nat → σ → Prop} {w0 w : World} {b : Nat} {T : List Nat} {S : σ} (h : O w0 w b T S) : Nz O w0 w w b T S := ⟨T, h, Sp.refl _ _, Nw.refl _ _⟩
theorem Nz.kp {σ : Type} {O : World → World → Nat → List Nat → σ → Prop} (L : OL O) {w0 w w' w'' : World} {b : Nat} {T : List Nat} {S : σ} (h : Nz O w0 w w' b T S) (k : Kp w' w'') : Nz O w0 w w'' b T S := by
  obtain ⟨T', h1, h2, h3⟩ := h
  exact ⟨T', L.sp h1 (k.sp []) (fun _ _ h => by cases h), h2.trans (k.sp _), h3⟩
theorem Nz.trans {σ : Type} {O : World → World → Nat → List Nat → σ → Prop} {w0 w w' w'' : World} {b : Nat} {T : List Nat} {S S' : σ} (h : Nz O w0 w w' b T S) (k : ∀ T', O w0 w' b T' S → Nz O w0 w' w'' b T' S') : Nz O w0 w w'' b T S' := by
  obtain ⟨T', h1, h2, h3⟩ := h
  obtain ⟨T2, q1, q2, q3⟩ := k T' h1
  exact ⟨T2, q1, h2.then q2 h3, h3.trans q3 h2.size⟩

/-! ### a family -/
def Fam {σ : Type} (O : World → World → Nat → List Nat → σ → Prop) (w0 w : World) : List Nat → List σ → List Nat → Prop
  | [], [], T => T = []
  | x :: X, S :: Ss, T => ∃ P Q, T = P ++ Q ∧ O w0 w x P S ∧ Fam O w0 w X Ss Q ∧ Dj P Q
  | _, _, _ => False
section
variable {σ : Type} {O : World → World → Nat → List Nat → σ → Prop}
theorem Fam.len {w0 w : World} : ∀ {X : List Nat} {Ss : List σ} {T : List Nat}, Fam O w0 w X Ss T → X.length = Ss.length
  | [], [], _, _ => rfl
  | _ :: _, _ :: _, _, ⟨_, _, _, _, h, _⟩ => by simp [Fam.len h]
  | [], _ :: _, _, h => h.elim
  | _ :: _, [], _, h => h.elim
theorem Fam.low (L : OL O) {w0 w : World} : ∀ {X : List Nat} {Ss : List σ} {T : List Nat}, Fam O w0 w X Ss T → ∀ t, t ∈ T → t < w.heap.size
  | [], [], _, h, t, ht => by rw [show _ = [] from h] at ht; cases ht
  | _ :: _, _ :: _, _, ⟨P, Q, e, h1, h, _⟩, t, ht => by
    rw [e] at ht
    rcases List.mem_append.1 ht with ht | ht
    · exact L.low h1 t ht
    · exact Fam.low L h t ht
  | [], _ :: _, _, h, _, _ => h.elim
  | _ :: _, [], _, h, _, _ => h.elim
theorem Fam.new (L : OL O) {w0 w : World} : ∀ {X : List Nat} {Ss : List σ} {T : List Nat}, Fam O w0 w X Ss T → ∀ t, t ∈ T → w0.heap.size ≤ t
  | [], [], _, h, t, ht => by rw [show _ = [] from h] at ht; cases ht
  | _ :: _, _ :: _, _, ⟨P, Q, e, h1, h, _⟩, t, ht => by
    rw [e] at ht
    rcases List.mem_append.1 ht with ht | ht
    · exact L.new h1 t ht
    · exact Fam.new L h t ht
  | [], _ :: _, _, h, _, _ => h.elim
  | _ :: _, [], _, h, _, _ => h.elim
theorem Fam.sp (L : OL O) {w0 w w' : World} {T' : List Nat} (k : Sp T' w w') : ∀ {X : List Nat} {Ss : List σ} {T : List Nat}, Fam O w0 w X Ss T → (∀ t, t ∈ T → t ∉ T') → Fam O w0 w' X Ss T
  | [], [], _, h, _ => h
  | _ :: _, _ :: _, _, ⟨P, Q, e, h1, h, d⟩, hd => ⟨P, Q, e, L.sp h1 k (fun t ht => hd t (by rw [e]; exact List.mem_append_left _ ht)), Fam.sp L k h (fun t ht => hd t (by rw [e]; exact List.mem_append_right _ ht)), d⟩
  | [], _ :: _, _, h, _ => h.elim
  | _ :: _, [], _, h, _ => h.elim
theorem Fam.kp (L : OL O) {w0 w w' : World} (k : Kp w w') {X : List Nat} {Ss : List σ} {T : List Nat} (h : Fam O w0 w X Ss T) : Fam O w0 w' X Ss T := h.sp L (k.sp []) (fun _ _ h => by cases h)
/-- one of them, and what a call on it leaves. -/
theorem Fam.at (L : OL O) {w0 w : World} (d : σ) : ∀ {X : List Nat} {Ss : List σ} {T : List Nat} (i : Nat), Fam O w0 w X Ss T → i < Ss.length → ∃ P, (∀ t, t ∈ P → t ∈ T) ∧ O w0 w (X.getD i 0) P (Ss.getD i d) ∧ ∀ w' S', Nz O w0 w w' (X.getD i 0) P S' → ∃ T', Fam O w0 w' X (Ss.set i S') T' ∧ Sp T w w' ∧ Nw w T T'
  | [], [], _, i, _, hi => by simp at hi
  | x :: X, S :: Ss, T, 0, ⟨P, Q, e, h1, h, dj⟩, _ => by
    refine ⟨P, fun t ht => by rw [e]; exact List.mem_append_left _ ht, h1, fun w' S' ⟨P', q1, q2, q3⟩ => ⟨P' ++ Q, ⟨P', Q, rfl, q1, h.sp L q2 dj.symm, fun t ht ht2 => ?_⟩, ?_, ?_⟩⟩
    · rcases q3 t ht with h5 | h5
      · exact dj t h5 ht2
      · have := h.low L t ht2; omega
    · rw [e]; exact q2.mono (fun t ht => List.mem_append_left _ ht)
    · rw [e]
      intro t ht
      rcases List.mem_append.1 ht with h5 | h5
      · rcases q3 t h5 with h6 | h6
        · exact .inl (List.mem_append_left _ h6)
        · exact .inr h6
      · exact .inl (List.mem_append_right _ h5)
  | x :: X, S :: Ss, T, i + 1, ⟨P, Q, e, h1, h, dj⟩, hi => by
    obtain ⟨R, r1, r2, r3⟩ := Fam.at L d i h (by simpa using hi)
    refine ⟨R, fun t ht => by rw [e]; exact List.mem_append_right _ (r1 t ht), r2, fun w' S' hn => ?_⟩
    obtain ⟨Q', q1, q2, q3⟩ := r3 w' S' hn
    refine ⟨P ++ Q', ⟨P, Q', rfl, L.sp h1 q2 dj, q1, fun t ht ht2 => ?_⟩, ?_, ?_⟩
    · rcases q3 t ht2 with h5 | h5
      · exact dj t ht h5
      · have := L.low h1 t ht; omega
    · rw [e]; exact q2.mono (fun t ht => List.mem_append_right _ ht)
    · rw [e]
      intro t ht
      rcases List.mem_append.1 ht with h5 | h5
      · exact .inl (List.mem_append_left _ h5)
      · rcases q3 t h5 with h6 | h6
        · exact .inl (List.mem_append_right _ h6)
        · exact .inr h6
  | [], _ :: _, _, _, h, _ => h.elim
  | _ :: _, [], _, _, h, _ => h.elim
/-- one of them, and a call that leaves it as it is, at its own blocks. -/
theorem Fam.same (L : OL O) {w0 w : World} (d : σ) : ∀ {X : List Nat} {Ss : List σ} {T : List Nat} (i : Nat), Fam O w0 w X Ss T → i < Ss.length → ∃ P, (∀ t, t ∈ P → t ∈ T) ∧ O w0 w (X.getD i 0) P (Ss.getD i d) ∧ ∀ w', O w0 w' (X.getD i 0) P (Ss.getD i d) → Sp P w w' → Fam O w0 w' X Ss T
  | [], [], _, i, _, hi => by simp at hi
  | x :: X, S :: Ss, T, 0, ⟨P, Q, e, h1, h, dj⟩, _ => ⟨P, fun t ht => by rw [e]; exact List.mem_append_left _ ht, h1, fun w' q1 q2 => ⟨P, Q, e, q1, h.sp L q2 dj.symm, dj⟩⟩
  | x :: X, S :: Ss, T, i + 1, ⟨P, Q, e, h1, h, dj⟩, hi => by
    obtain ⟨R, r1, r2, r3⟩ := Fam.same L d i h (by simpa using hi)
    exact ⟨R, fun t ht => by rw [e]; exact List.mem_append_right _ (r1 t ht), r2, fun w' q1 q2 => ⟨P, Q, e, L.sp h1 q2 (fun t ht ht2 => dj t ht (r1 t ht2)), r3 w' q1 q2, dj⟩⟩
  | [], _ :: _, _, _, h, _ => h.elim
  | _ :: _, [], _, _, h, _ => h.elim
/-- one more. -/
theorem Fam.snoc (L : OL O) {w0 w : World} {x : Nat} {P : List Nat} {S : σ} (ho : O w0 w x P S) : ∀ {X : List Nat} {Ss : List σ} {T : List Nat}, Fam O w0 w X Ss T → Dj T P → Fam O w0 w (X ++ [x]) (Ss ++ [S]) (T ++ P)
  | [], [], T, h, _ => ⟨P, [], by rw [show T = [] from h]; simp, ho, rfl, fun t _ h => by cases h⟩
  | y :: X, R :: Ss, T, ⟨A, Q, e, h1, h, dj⟩, hd => by
    refine ⟨A, Q ++ P, by rw [e, List.append_assoc], h1, Fam.snoc L ho h (fun t ht => hd t (by rw [e]; exact List.mem_append_right _ ht)), fun t ht ht2 => ?_⟩
    rcases List.mem_append.1 ht2 with h5 | h5
    · exact dj t ht h5
    · exact hd t (by rw [e]; exact List.mem_append_left _ ht) h5
  | [], _ :: _, _, h, _ => h.elim
  | _ :: _, [], _, h, _ => h.elim
end

/-! ### two -/
def Both {σ τ : Type} (O : World → World → Nat → List Nat → σ → Prop) (Q : World → World → Nat → List Nat → τ → Prop) (w0 w : World) (x y : Nat) (T : List Nat) (A : σ) (B : τ) : Prop := ∃ P R, T = P ++ R ∧ O w0 w x P A ∧ Q w0 w y R B ∧ Dj P R
section
variable {σ τ : Type} {O : World → World → Nat → List Nat → σ → Prop} {Q : World → World → Nat → List Nat → τ → Prop}
theorem Both.new (L : OL O) (M : OL Q) {w0 w : World} {x y : Nat} {T : List Nat} {A : σ} {B : τ} (h : Both O Q w0 w x y T A B) : ∀ t, t ∈ T → w0.heap.size ≤ t := by
  obtain ⟨P, R, rfl, h1, h2, _⟩ := h
  intro t ht
  rcases List.mem_append.1 ht with ht | ht
  · exact L.new h1 t ht
  · exact M.new h2 t ht
theorem Both.low (L : OL O) (M : OL Q) {w0 w : World} {x y : Nat} {T : List Nat} {A : σ} {B : τ} (h : Both O Q w0 w x y T A B) : ∀ t, t ∈ T → t < w.heap.size := by
  obtain ⟨P, R, rfl, h1, h2, _⟩ := h
  intro t ht
  rcases List.mem_append.1 ht with ht | ht
  · exact L.low h1 t ht
  · exact M.low h2 t ht
theorem Both.sp (L : OL O) (M : OL Q) {w0 w w' : World} {x y : Nat} {T T' : List Nat} {A : σ} {B : τ} (h : Both O Q w0 w x y T A B) (k : Sp T' w w') (hd : ∀ t, t ∈ T → t ∉ T') : Both O Q w0 w' x y T A B := by
  obtain ⟨P, R, rfl, h1, h2, h3⟩ := h
  exact ⟨P, R, rfl, L.sp h1 k (fun t ht => hd t (List.mem_append_left _ ht)), M.sp h2 k (fun t ht => hd t (List.mem_append_right _ ht)), h3⟩
theorem Both.kp (L : OL O) (M : OL Q) {w0 w w' : World} {x y : Nat} {T : List Nat} {A : σ} {B : τ} (h : Both O Q w0 w x y T A B) (k : Kp w w') : Both O Q w0 w' x y T A B := h.sp L M (k.sp []) (fun _ _ h => by cases h)
/-- behind calls, from W on. -/
def Bx (O : World → World → Nat → List Nat → σ → Prop) (Q : World → World → Nat → List Nat → τ → Prop) (w0 W : World) (x y : Nat) (T : List Nat) (A : σ) (B : τ) (w' : World) : Prop := ∃ T', Both O Q w0 w' x y T' A B ∧ Sp T W w' ∧ Nw W T T'
theorem Bx.refl {w0 w : World} {x y : Nat} {T : List Nat} {A : σ} {B : τ} (h : Both O Q w0 w x y T A B) : Bx O Q w0 w x y T A B w := ⟨T, h, Sp.refl _ _, Nw.refl _ _⟩
theorem Bx.kp (L : OL O) (M : OL Q) {w0 W w' w'' : World} {x y : Nat} {T : List Nat} {A : σ} {B : τ} (h : Bx O Q w0 W x y T A B w') (k : Kp w' w'') : Bx O Q w0 W x y T A B w'' := by
  obtain ⟨T', h1, h2, h3⟩ := h
  exact ⟨T', h1.kp L M k, h2.trans (k.sp _), h3⟩
theorem Bx.below {w0 W w' : World} {x y : Nat} {T : List Nat} {A : σ} {B : τ} (h : Bx O Q w0 W x y T A B w') (K : Kp w0 W) (hT : ∀ t, t ∈ T → w0.heap.size ≤ t) : Kp w0 w' := by
  obtain ⟨T', h1, h2, h3⟩ := h
  exact Sp.kp K h2 hT
theorem Bx.held {w0 W w' : World} {x y : Nat} {T : List Nat} {A : σ} {B : τ} (h : Bx O Q w0 W x y T A B w') {b o : Nat} {v : Value} (hc : W.cell? ⟨b, o, none⟩ = some v) (hb : b ∉ T) : w'.cell? ⟨b, o, none⟩ = some v := by
  obtain ⟨T', h1, h2, h3⟩ := h
  exact h2.held hc hb
theorem Bx.trans {w0 W W' w' : World} {x y : Nat} {T T' : List Nat} {A : σ} {B : τ} (h2 : Sp T W W') (h3 : Nw W T T') (h : Bx O Q w0 W' x y T' A B w') : Bx O Q w0 W x y T A B w' := by
  obtain ⟨T2, q1, q2, q3⟩ := h
  exact ⟨T2, q1, h2.then q2 h3, h3.trans q3 h2.size⟩
theorem Bx.from {w0 W W' w' : World} {x y : Nat} {T : List Nat} {A : σ} {B : τ} (k : Kp W W') (h : Bx O Q w0 W' x y T A B w') : Bx O Q w0 W x y T A B w' := Bx.trans (k.sp T) (Nw.refl _ _) h
/-- a call on the first. -/
theorem Bx.one (L : OL O) (M : OL Q) {w0 W w' w'' : World} {x y : Nat} {T : List Nat} {A A' : σ} {B : τ} (h : Bx O Q w0 W x y T A B w') (hc : ∀ P, O w0 w' x P A → Nz O w0 w' w'' x P A') : Bx O Q w0 W x y T A' B w'' := by
  obtain ⟨T', ⟨P, R, rfl, h1, h2, d⟩, q2, q3⟩ := h
  obtain ⟨P', p1, p2, p3⟩ := hc P h1
  have d' : Dj P' R := fun t ht ht2 => by
    rcases p3 t ht with h5 | h5
    · exact d t h5 ht2
    · have := M.low h2 t ht2; omega
  refine ⟨P' ++ R, ⟨P', R, rfl, p1, M.sp h2 p2 d.symm, d'⟩, q2.then (p2.mono fun t ht => List.mem_append_left _ ht) q3, q3.trans (fun t ht => ?_) q2.size⟩
  rcases List.mem_append.1 ht with h5 | h5
  · rcases p3 t h5 with h6 | h6
    · exact .inl (List.mem_append_left _ h6)
    · exact .inr h6
  · exact .inl (List.mem_append_right _ h5)
/-- a call on the second. -/
theorem Bx.two (L : OL O) (M : OL Q) {w0 W w' w'' : World} {x y : Nat} {T : List Nat} {A : σ} {B B' : τ} (h : Bx O Q w0 W x y T A B w') (hc : ∀ P, Q w0 w' y P B → Nz Q w0 w' w'' y P B') : Bx O Q w0 W x y T A B' w'' := by
  obtain ⟨T', ⟨P, R, rfl, h1, h2, d⟩, q2, q3⟩ := h
  obtain ⟨R', p1, p2, p3⟩ := hc R h2
  have d' : Dj P R' := fun t ht ht2 => by
    rcases p3 t ht2 with h5 | h5
    · exact d t ht h5
    · have := L.low h1 t ht; omega
  refine ⟨P ++ R', ⟨P, R', rfl, L.sp h1 p2 d, p1, d'⟩, q2.then (p2.mono fun t ht => List.mem_append_right _ ht) q3, q3.trans (fun t ht => ?_) q2.size⟩
  rcases List.mem_append.1 ht with h5 | h5
  · exact .inl (List.mem_append_left _ h5)
  · rcases p3 t h5 with h6 | h6
    · exact .inl (List.mem_append_right _ h6)
    · exact .inr h6
end

end Go.Proofs.Ytmklkdopmemfaaa
