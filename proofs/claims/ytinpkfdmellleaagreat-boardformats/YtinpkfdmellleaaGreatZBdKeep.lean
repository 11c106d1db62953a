/-
  A bay and the document's side by side, and a block of the call's own beside both: what calls on the one or the other leave. Conditions: all lie in memory, apart.
-/
import Derived.Test.YtinpkfdmellleaaGreatZBdSL
namespace Go.Proofs.YtinpkfdmellleaaGreat
open Go.RowKit Plain
set_option linter.unusedVariables false

/-- both, as they lie, apart from block K. -/
structure Bk (w wb V : World) (x y K : Nat) (T P R : List Nat) (A B : BS) : Prop where
  a : Bw w V x P A
  b : Dw w V y R B
  d : Dj P R
  kp : K ∉ P
  kr : K ∉ R
  kv : K < V.heap.size
  s : Sp T wb V
  n : Nw wb T (P ++ R)
theorem Bk.of {w wb wr V : World} {x y K : Nat} {T : List Nat} {A B : BS} (h : Bd w wb x y T A B wr) (hK : K = wr.heap.size) (k : Kp wr V) (hV : K < V.heap.size) : ∃ P R, Bk w wb V x y K T P R A B := by
  obtain ⟨T', ⟨P, R, rfl, h1, h2, d⟩, q2, q3⟩ := h
  exact ⟨P, R, OL.bw.sp h1 (k.sp []) (fun _ _ h => by cases h), OL.dw.sp h2 (k.sp []) (fun _ _ h => by cases h), d, fun hm => by have := OL.bw.low h1 K hm; omega, fun hm => by have := OL.dw.low h2 K hm; omega, hV, q2.trans (k.sp T), q3⟩
theorem Bk.bd {w wb V : World} {x y K : Nat} {T P R : List Nat} {A B : BS} (h : Bk w wb V x y K T P R A B) : Bd w wb x y T A B V := ⟨P ++ R, ⟨P, R, rfl, h.a, h.b, h.d⟩, h.s, h.n⟩
theorem Bk.below {w wb V : World} {x y K : Nat} {T P R : List Nat} {A B : BS} (h : Bk w wb V x y K T P R A B) (K0 : Kp w wb) (hT : ∀ t, t ∈ T → w.heap.size ≤ t) : Kp w V := h.bd.below K0 hT
theorem Bk.up {w wb V V' : World} {x y K : Nat} {T P R : List Nat} {A B : BS} (h : Bk w wb V x y K T P R A B) (k : Kp V V') : Bk w wb V' x y K T P R A B :=
  ⟨OL.bw.sp h.a (k.sp []) (fun _ _ h => by cases h), OL.dw.sp h.b (k.sp []) (fun _ _ h => by cases h), h.d, h.kp, h.kr, Nat.lt_of_lt_of_le h.kv k.size, h.s.trans (k.sp T), h.n⟩
theorem Bk.mk1 {w wb V V' : World} {x y K : Nat} {T P R : List Nat} {A A' B : BS} (h : Bk w wb V x y K T P R A B) (nz : Nz Bw w V V' x P A') : (∃ P', Bk w wb V' x y K T P' R A' B) ∧ ∀ o v, V.cell? ⟨K, o, none⟩ = some v → V'.cell? ⟨K, o, none⟩ = some v := by
  obtain ⟨P', p1, p2, p3⟩ := nz
  have lR := OL.dw.low h.b
  refine ⟨⟨P', p1, OL.dw.sp h.b p2 h.d.symm, fun t ht ht2 => ?_, fun hm => ?_, h.kr, Nat.lt_of_lt_of_le h.kv p2.size, h.s.then (p2.mono fun t ht => List.mem_append_left _ ht) h.n, ?_⟩, fun o v hc => p2.held hc h.kp⟩
  · rcases p3 t ht with h5 | h5
    · exact h.d t h5 ht2
    · have := lR t ht2; omega
  · rcases p3 K hm with h5 | h5
    · exact h.kp h5
    · have := h.kv; omega
  · refine h.n.trans (fun t ht => ?_) h.s.size
    rcases List.mem_append.1 ht with h5 | h5
    · rcases p3 t h5 with h6 | h6
      · exact .inl (List.mem_append_left _ h6)
      · exact .inr h6
    · exact .inl (List.mem_append_right _ h5)
theorem Bk.mk2 {w wb V V' : World} {x y K : Nat} {T P R : List Nat} {A B B' : BS} (h : Bk w wb V x y K T P R A B) (nz : Nz Dw w V V' y R B') : (∃ R', Bk w wb V' x y K T P R' A B') ∧ ∀ o v, V.cell? ⟨K, o, none⟩ = some v → V'.cell? ⟨K, o, none⟩ = some v := by
  obtain ⟨R', p1, p2, p3⟩ := nz
  have lP := OL.bw.low h.a
  refine ⟨⟨R', OL.bw.sp h.a p2 h.d, p1, fun t ht ht2 => ?_, h.kp, fun hm => ?_, Nat.lt_of_lt_of_le h.kv p2.size, h.s.then (p2.mono fun t ht => List.mem_append_right _ ht) h.n, ?_⟩, fun o v hc => p2.held hc h.kr⟩
  · rcases p3 t ht2 with h5 | h5
    · exact h.d t ht h5
    · have := lP t ht; omega
  · rcases p3 K hm with h5 | h5
    · exact h.kr h5
    · have := h.kv; omega
  · refine h.n.trans (fun t ht => ?_) h.s.size
    rcases List.mem_append.1 ht with h5 | h5
    · exact .inl (List.mem_append_left _ h5)
    · rcases p3 t h5 with h6 | h6
      · exact .inl (List.mem_append_right _ h6)
      · exact .inr h6

theorem Bk.to1 {w wb V V' : World} {x y K : Nat} {T P P' R : List Nat} {A A' B : BS} (h : Bk w wb V x y K T P R A B) (p1 : Bw w V' x P' A') (p2 : Sp P V V') (p3 : Nw V P P') : Bk w wb V' x y K T P' R A' B := by
  have lR := OL.dw.low h.b
  refine ⟨p1, OL.dw.sp h.b p2 h.d.symm, fun t ht ht2 => ?_, fun hm => ?_, h.kr, Nat.lt_of_lt_of_le h.kv p2.size, h.s.then (p2.mono fun t ht => List.mem_append_left _ ht) h.n, ?_⟩
  · rcases p3 t ht with h5 | h5
    · exact h.d t h5 ht2
    · have := lR t ht2; omega
  · rcases p3 K hm with h5 | h5
    · exact h.kp h5
    · have := h.kv; omega
  · refine h.n.trans (fun t ht => ?_) h.s.size
    rcases List.mem_append.1 ht with h5 | h5
    · rcases p3 t h5 with h6 | h6
      · exact .inl (List.mem_append_left _ h6)
      · exact .inr h6
    · exact .inl (List.mem_append_right _ h5)
theorem Bk.to2 {w wb V V' : World} {x y K : Nat} {T P R R' : List Nat} {A B B' : BS} (h : Bk w wb V x y K T P R A B) (p1 : Dw w V' y R' B') (p2 : Sp R V V') (p3 : Nw V R R') : Bk w wb V' x y K T P R' A B' := by
  have lP := OL.bw.low h.a
  refine ⟨OL.bw.sp h.a p2 h.d, p1, fun t ht ht2 => ?_, h.kp, fun hm => ?_, Nat.lt_of_lt_of_le h.kv p2.size, h.s.then (p2.mono fun t ht => List.mem_append_right _ ht) h.n, ?_⟩
  · rcases p3 t ht2 with h5 | h5
    · exact h.d t ht h5
    · have := lP t ht; omega
  · rcases p3 K hm with h5 | h5
    · exact h.kr h5
    · have := h.kv; omega
  · refine h.n.trans (fun t ht => ?_) h.s.size
    rcases List.mem_append.1 ht with h5 | h5
    · exact .inl (List.mem_append_left _ h5)
    · rcases p3 t h5 with h6 | h6
      · exact .inl (List.mem_append_right _ h6)
      · exact .inr h6
theorem bk_fail {w0 w : World} {b : Nat} {T : List Nat} {B : BS} (h : Bw w0 w b T B) (K : Kp w0 w) {i : Int} (hi : fdE B i = 0) : ∃ x, (Calls Tryz.prog 16 #[.pointer (some ⟨b, 0, none⟩), .int .i64 i] w fun e w' => e = .returned (.pointer (some ⟨x, 0, none⟩)) ∧ w' = w) ∧ Calls Tryz.prog 17 #[.pointer (some ⟨x, 0, none⟩)] w fun e w' => e = .returned (.tuple #[]) ∧ Nz Bw w0 w w' b T (put B i (fa (bm B i))) := by
  obtain ⟨m, X, F, rfl, h1⟩ := h
  exact ⟨_, bx_member h1 hi, bx_fail h1 K hi⟩
theorem dk_fail {w0 w : World} {y : Nat} {T : List Nat} {B : BS} (h : Dw w0 w y T B) (K : Kp w0 w) {i : Int} (hi : fdE B i = 0) : ∃ m cap z, w.cell? ⟨y, 0, none⟩ = some (.slice (some ⟨m, 0, none⟩) B.ms.length cap) ∧ w.cell? ⟨m, i.toNat, none⟩ = some (.pointer (some ⟨z, 0, none⟩)) ∧ (B.ms.length ≤ cap ∧ cap ≤ 9223372036854775807) ∧ (0 ≤ i ∧ i < B.ms.length) ∧ (∀ w1, Kp w w1 → Calls Tryz.prog 18 #[.pointer (some ⟨z, 0, none⟩)] w1 fun e w' => e = .returned (.tuple #[]) ∧ Nz Dw w0 w w' y T (put B i (fa (bm B i)))) := by
  obtain ⟨m, cap, X, F, rfl, h1⟩ := h
  obtain ⟨P, p1, p2, p3⟩ := h1.at hi
  obtain ⟨i0, i1, hlt, _⟩ := bm_mem hi
  refine ⟨m, cap, X.getD i.toNat 0, h1.c0, h1.ar i.toNat hlt, ⟨h1.k1, h1.k2⟩, ⟨i0, i1⟩, fun w1 k1 => ?_⟩
  refine (rw_fail (OL.rw.sp p2 (k1.sp []) (fun _ _ h => by cases h)) (K.trans k1)).mono ?_
  rintro e w' ⟨rfl, hn⟩
  exact ⟨rfl, p3 w' _ (Nz.from k1 hn) Right.fa (Nat.zero_le _)⟩

end Go.Proofs.YtinpkfdmellleaaGreat
