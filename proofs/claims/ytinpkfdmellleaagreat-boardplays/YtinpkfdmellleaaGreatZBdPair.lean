/-
  A bay and the document's, side by side: calls on the one or the other. Conditions: both lie in memory, apart.
-/
import Derived.Test.YtinpkfdmellleaaGreatZBdFs
import Derived.Test.YtinpkfdmellleaaGreatZBay
namespace Go.Proofs.YtinpkfdmellleaaGreat
open Go.RowKit Plain
set_option linter.unusedVariables false

section
variable {σ τ : Type} {O : World → World → Nat → List Nat → σ → Prop} {Q : World → World → Nat → List Nat → τ → Prop}
theorem Bx.mk1 (L : OL O) (M : OL Q) {w0 W w' w'' : World} {x y : Nat} {T P R : List Nat} {A A' : σ} {B : τ} (h1 : O w0 w' x P A) (h2 : Q w0 w' y R B) (d : Dj P R) (q2 : Sp T W w') (q3 : Nw W T (P ++ R)) (hc : Nz O w0 w' w'' x P A') : Bx O Q w0 W x y T A' B w'' := by
  obtain ⟨P', p1, p2, p3⟩ := hc
  have d' : Dj P' R := fun t ht ht2 => by
    rcases p3 t ht with h5 | h5
    · exact d t h5 ht2
    · have := M.low h2 t ht2; omega
  refine ⟨P' ++ R, ⟨P', R, rfl, p1, M.sp h2 p2 d.symm, d'⟩, q2.then (p2.mono fun t ht => List.mem_append_left _ ht) q3, q3.trans (fun t ht => ?_) q2.size⟩
  rcases List.mem_append.1 ht with h5 | h5
  · rcases p3 t h5 with h6 | h6
    · exact .inl (List.mem_append_left _ h6)
    · exact .inr h6
  · exact .inl (List.mem_append_right _ h5)
theorem Bx.mk2 (L : OL O) (M : OL Q) {w0 W w' w'' : World} {x y : Nat} {T P R : List Nat} {A : σ} {B B' : τ} (h1 : O w0 w' x P A) (h2 : Q w0 w' y R B) (d : Dj P R) (q2 : Sp T W w') (q3 : Nw W T (P ++ R)) (hc : Nz Q w0 w' w'' y R B') : Bx O Q w0 W x y T A B' w'' := by
  obtain ⟨R', p1, p2, p3⟩ := hc
  have d' : Dj P R' := fun t ht ht2 => by
    rcases p3 t ht2 with h5 | h5
    · exact d t ht h5
    · have := L.low h1 t ht; omega
  refine ⟨P ++ R', ⟨P, R', rfl, L.sp h1 p2 d, p1, d'⟩, q2.then (p2.mono fun t ht => List.mem_append_right _ ht) q3, q3.trans (fun t ht => ?_) q2.size⟩
  rcases List.mem_append.1 ht with h5 | h5
  · exact .inl (List.mem_append_left _ h5)
  · rcases p3 t h5 with h6 | h6
    · exact .inl (List.mem_append_right _ h6)
    · exact .inr h6
end
/-- both, behind calls from W on. -/
abbrev Bd (w0 W : World) (x y : Nat) (T : List Nat) (A B : BS) (w' : World) : Prop := Bx Bw Dw w0 W x y T A B w'
theorem Bd.c1 {w0 W V : World} {x y : Nat} {T : List Nat} {A A' B : BS} (K : Kp w0 W) (hT : ∀ t, t ∈ T → w0.heap.size ≤ t) (h : Bd w0 W x y T A B V) {F : FuncId} {args : Array Value} {E : Ending → Prop}
    (hc : ∀ P, Bw w0 V x P A → Kp w0 V → Calls Tryz.prog F args V fun e w'' => E e ∧ Nz Bw w0 V w'' x P A') : Calls Tryz.prog F args V fun e w'' => E e ∧ Bd w0 W x y T A' B w'' := by
  have K' := h.below K hT
  obtain ⟨T', ⟨P, R, rfl, h1, h2, d⟩, q2, q3⟩ := h
  exact (hc P h1 K').mono fun e w'' ⟨he, nz⟩ => ⟨he, Bx.mk1 OL.bw OL.dw h1 h2 d q2 q3 nz⟩
theorem Bd.c2 {w0 W V : World} {x y : Nat} {T : List Nat} {A B B' : BS} (K : Kp w0 W) (hT : ∀ t, t ∈ T → w0.heap.size ≤ t) (h : Bd w0 W x y T A B V) {F : FuncId} {args : Array Value} {E : Ending → Prop}
    (hc : ∀ P, Dw w0 V y P B → Kp w0 V → Calls Tryz.prog F args V fun e w'' => E e ∧ Nz Dw w0 V w'' y P B') : Calls Tryz.prog F args V fun e w'' => E e ∧ Bd w0 W x y T A B' w'' := by
  have K' := h.below K hT
  obtain ⟨T', ⟨P, R, rfl, h1, h2, d⟩, q2, q3⟩ := h
  exact (hc R h2 K').mono fun e w'' ⟨he, nz⟩ => ⟨he, Bx.mk2 OL.bw OL.dw h1 h2 d q2 q3 nz⟩
/-- the member of the bay's, as it lies. -/
theorem Bd.own1 {w0 W V : World} {x y : Nat} {T : List Nat} {A B : BS} (h : Bd w0 W x y T A B V) {i : Int} (hi : fdE A i = 0) : ∃ z P, (∀ V', Kp V V' → Calls Tryz.prog 16 #[.pointer (some ⟨x, 0, none⟩), .int .i64 i] V' fun e w' => e = .returned (.pointer (some ⟨z, 0, none⟩)) ∧ w' = V') ∧ Ow w0 V z P (bm A i) ∧ ∀ w' S', Nx w0 V w' z P S' → Right S' → S'.row.length ≤ A.g → Bd w0 W x y T (put A i S') B w' := by
  obtain ⟨T', ⟨P, R, rfl, h1, h2, d⟩, q2, q3⟩ := h
  have h1' := h1
  obtain ⟨m, X, F, rfl, hx⟩ := h1'
  obtain ⟨Z, z1, z2, z3⟩ := hx.at hi
  refine ⟨X.getD i.toNat 0, Z, fun V' kV => ?_, z2, fun w' S' hn hr hl => Bx.mk1 OL.bw OL.dw h1 h2 d q2 q3 (z3 w' S' hn hr hl)⟩
  have hm := member_any (hx.sp (kV.sp []) (fun _ _ h => by cases h)) i
  unfold ptr at hm
  rw [if_pos hi] at hm
  exact hm
theorem Bd.none1 {w0 W V : World} {x y : Nat} {T : List Nat} {A B : BS} (h : Bd w0 W x y T A B V) {i : Int} (hi : fdE A i ≠ 0) : ∀ V', Kp V V' → Calls Tryz.prog 16 #[.pointer (some ⟨x, 0, none⟩), .int .i64 i] V' fun e w' => e = .returned (.pointer none) ∧ w' = V' := fun V' kV => by
  obtain ⟨T', ⟨P, R, rfl, h1, h2, d⟩, q2, q3⟩ := h
  exact bw_nomember (OL.bw.sp h1 (kV.sp []) (fun _ _ h => by cases h)) hi
/-- the document's list of members. -/
theorem Bd.list2 {w0 W V : World} {x y : Nat} {T : List Nat} {A B : BS} (h : Bd w0 W x y T A B V) : ∃ m cap, V.cell? ⟨y, 0, none⟩ = some (.slice (some ⟨m, 0, none⟩) B.ms.length cap) ∧ B.ms.length ≤ cap ∧ cap ≤ 9223372036854775807 ∧ V.cell? ⟨y, 1, none⟩ = some (.int .i64 (B.md : Int)) ∧ V.cell? ⟨y, 2, none⟩ = some (.int .i64 (lfI B.pw)) := by
  obtain ⟨T', ⟨P, R, rfl, h1, ⟨m, cap, X, F, rfl, hx⟩, d⟩, q2, q3⟩ := h
  exact ⟨m, cap, hx.c0, hx.k1, hx.k2, hx.c1, hx.c2⟩
theorem Bd.own2 {w0 W V : World} {x y : Nat} {T : List Nat} {A B : BS} (h : Bd w0 W x y T A B V) {i : Nat} (hi : i < B.ms.length) : ∃ m cap z P, V.cell? ⟨y, 0, none⟩ = some (.slice (some ⟨m, 0, none⟩) B.ms.length cap) ∧ B.ms.length ≤ cap ∧ cap ≤ 9223372036854775807 ∧ V.cell? ⟨m, i, none⟩ = some (.pointer (some ⟨z, 0, none⟩)) ∧ Rw w0 V z P (B.ms.getD i noM) ∧ (∀ w' S', Nz Rw w0 V w' z P S' → Right S' → S'.row.length ≤ B.g → Bd w0 W x y T A (put B (i : Int) S') w') ∧ ∀ t, t ∈ P → t ≠ y ∧ t ≠ m ∧ (t ∈ T ∨ W.heap.size ≤ t) := by
  obtain ⟨T', ⟨P, R, rfl, h1, h2, d⟩, q2, q3⟩ := h
  have h2' := h2
  obtain ⟨m, cap, X, F, rfl, hx⟩ := h2'
  have hf : fdE B (i : Int) = 0 := by unfold fdE; rw [if_pos ⟨by omega, by omega⟩]
  obtain ⟨Z, z1, z2, z3⟩ := hx.at hf
  have e : bm B (i : Int) = B.ms.getD i noM := by unfold bm; rw [Int.toNat_natCast]
  rw [e, Int.toNat_natCast] at z2
  rw [Int.toNat_natCast] at z3
  exact ⟨m, cap, X.getD i 0, Z, hx.c0, hx.k1, hx.k2, hx.ar i hi, z2, fun w' S' hn hr hl => Bx.mk2 OL.bw OL.dw h1 h2 d q2 q3 (z3 w' S' hn hr hl), fun t ht => ⟨fun e => hx.n1 (by rw [← e]; exact z1 t ht), fun e => hx.n2 (by rw [← e]; exact z1 t ht), q3 t (by simp [z1 t ht])⟩⟩
theorem Bd.gd {w0 W V : World} {x y : Nat} {T : List Nat} {A B : BS} (h : Bd w0 W x y T A B V) : Gd A := by
  obtain ⟨T', ⟨P, R, rfl, h1, h2, d⟩, q2, q3⟩ := h
  exact h1.gd
theorem Bd.gd2 {w0 W V : World} {x y : Nat} {T : List Nat} {A B : BS} (h : Bd w0 W x y T A B V) : Gd B := by
  obtain ⟨T', ⟨P, R, rfl, h1, h2, d⟩, q2, q3⟩ := h
  exact h2.gd
theorem Bd.kp {w0 W w' w'' : World} {x y : Nat} {T : List Nat} {A B : BS} (h : Bd w0 W x y T A B w') (k : Kp w' w'') : Bd w0 W x y T A B w'' := Bx.kp OL.bw OL.dw h k
theorem Bd.steps {w0 W V : World} {x y : Nat} {T : List Nat} {A B : BS} (h : Bd w0 W x y T A B V) : Calls Tryz.prog 25 #[.pointer (some ⟨x, 0, none⟩)] V fun e w' => e = .returned (.int .i64 (A.md : Int)) ∧ w' = V := by
  obtain ⟨T', ⟨P, R, rfl, h1, h2, d⟩, q2, q3⟩ := h
  exact bw_steps h1
theorem Nz.from {σ : Type} {O : World → World → Nat → List Nat → σ → Prop} {w0 V V' w' : World} {z : Nat} {P : List Nat} {S : σ} (k : Kp V V') (h : Nz O w0 V' w' z P S) : Nz O w0 V w' z P S := by
  obtain ⟨P', h1, h2, h3⟩ := h
  exact ⟨P', h1, (k.sp P).trans h2, fun t ht => (h3 t ht).imp id (fun h => Nat.le_trans k.size h)⟩

end Go.Proofs.YtinpkfdmellleaaGreat
