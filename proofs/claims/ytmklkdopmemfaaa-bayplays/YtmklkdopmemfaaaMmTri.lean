/-
  Members of the call's own, several at once; acts played as writes. No condition.
-/
import Derived.Test.YtmklkdopmemfaaaMmCls
namespace Go.Proofs.Ytmklkdopmemfaaa
open Go.RowKit Plain
set_option linter.unusedVariables false

/-! ### writes of acts -/
def wrs : MS → List AC → MS
  | S, [] => S
  | S, a :: L => wrs (wr S a.at_ (scS a.data false)) L
theorem wrs_app : ∀ (L M : List AC) (S : MS), wrs S (L ++ M) = wrs (wrs S L) M
  | [], _, _ => rfl
  | a :: L, M, S => by simp only [wrs, List.cons_append, wrs_app L M]
theorem wrs_take (S : MS) (L : List AC) (k : Nat) (h : k < L.length) : wrs S (L.take (k + 1)) = wr (wrs S (L.take k)) (L.getD k noA).at_ (scS (L.getD k noA).data false) := by
  have e : L.take (k + 1) = L.take k ++ [L.getD k noA] := by
    rw [List.take_add_one, List.getElem?_eq_getElem h, List.getD_eq_getElem?_getD, List.getElem?_eq_getElem h]
    rfl
  rw [e, wrs_app]
  rfl
theorem wr_row (S : MS) (k : Int) (s : ByteArray) : (wr S k s).row.length ≤ S.row.length + 1 ∧ (wr S k s).dead = S.dead ∧ (wr S k s).las = S.las := by
  unfold wr
  split
  · exact ⟨by simp, rfl, rfl⟩
  · exact ⟨by omega, rfl, rfl⟩
theorem wrs_row : ∀ (L : List AC) (S : MS), (wrs S L).row.length ≤ S.row.length + L.length ∧ (wrs S L).dead = S.dead ∧ (wrs S L).las = S.las
  | [], S => ⟨by simp [wrs], rfl, rfl⟩
  | a :: L, S => by
    have h1 := wrs_row L (wr S a.at_ (scS a.data false))
    have h2 := wr_row S a.at_ (scS a.data false)
    simp only [wrs, List.length_cons]
    exact ⟨by omega, h1.2.1.trans h2.2.1, h1.2.2.trans h2.2.2⟩
theorem wrs_right : ∀ (L : List AC) (S : MS), Right S → Right (wrs S L)
  | [], _, h => h
  | a :: L, S, h => wrs_right L _ (h.wr _ _)
theorem wrs_fine : ∀ (L : List AC) (S : MS), Fine S → Fine (wrs S L)
  | [], _, h => h
  | a :: L, S, h => wrs_fine L _ (h.wr _ _)

/-! ### acts in memory -/
theorem ActsIn.take {w : World} {v : Value} {L : List AC} (h : ActsIn w v L) (m : Nat) (hm : m ≤ L.length) : ∃ a cap, v = .slice a L.length cap ∧ L.length ≤ cap ∧ cap ≤ 9223372036854775807 ∧ (0 < m → ∃ g off, a = some ⟨g, off, none⟩ ∧ ∀ i, i < m → w.rangeAt g (off + i * 5) (acs (L.getD i noA))) := by
  obtain ⟨a, cap, rfl, h1, h2, h3⟩ := h.h
  refine ⟨a, cap, rfl, h1, h2, fun h0 => ?_⟩
  obtain ⟨g, off, rfl, h4⟩ := h3 (by omega)
  exact ⟨g, off, rfl, fun i hi => h4 i (by omega)⟩
theorem acs_cells {w : World} {g o : Nat} {a : AC} (h : w.rangeAt g o (acs a)) : w.cell? ⟨g, o, none⟩ = some (.int .i64 a.op) ∧ w.cell? ⟨g, o + 1, none⟩ = some (.int .i64 a.at_) ∧ w.cell? ⟨g, o + 2, none⟩ = some (.int .u8 (a.data : Int)) ∧ w.cell? ⟨g, o + 3, none⟩ = some (.bool a.odd) ∧ w.cell? ⟨g, o + 4, none⟩ = some a.kv :=
  ⟨h 0 _ rfl, h 1 _ rfl, h 2 _ rfl, h 3 _ rfl, h 4 _ rfl⟩

/-! ### several members -/
def Dj (T T' : List Nat) : Prop := ∀ t, t ∈ T → t ∉ T'
theorem Dj.symm {T T' : List Nat} (h : Dj T T') : Dj T' T := fun t h1 h2 => h t h2 h1
theorem Nx.keep {w0 w w' : World} {b b2 : Nat} {T T2 T' : List Nat} {S S2 : MS} (h2 : Sp T w w') (h3 : Nw w T T') (o : Ow w0 w b2 T2 S2) (d : Dj T2 T) : Ow w0 w' b2 T2 S2 ∧ Dj T2 T' :=
  ⟨o.sp h2 d, fun t ht ht' => by
    rcases h3 t ht' with h | h
    · exact d t ht h
    · have := o.low t ht; omega⟩
/-- three members. -/
def Tri (w0 w : World) (T : List Nat) (x y z : Nat) (A B C : MS) : Prop := ∃ P Q R, T = P ++ (Q ++ R) ∧ Ow w0 w x P A ∧ Ow w0 w y Q B ∧ Ow w0 w z R C ∧ Dj P Q ∧ Dj P R ∧ Dj Q R
theorem Tri.new {w0 w : World} {T : List Nat} {x y z : Nat} {A B C : MS} (h : Tri w0 w T x y z A B C) : ∀ t, t ∈ T → w0.heap.size ≤ t := by
  obtain ⟨P, Q, R, rfl, h1, h2, h3, _⟩ := h
  intro t ht
  simp only [List.mem_append] at ht
  rcases ht with ht | ht | ht
  · exact h1.new t ht
  · exact h2.new t ht
  · exact h3.new t ht
theorem Tri.low {w0 w : World} {T : List Nat} {x y z : Nat} {A B C : MS} (h : Tri w0 w T x y z A B C) : ∀ t, t ∈ T → t < w.heap.size := by
  obtain ⟨P, Q, R, rfl, h1, h2, h3, _⟩ := h
  intro t ht
  simp only [List.mem_append] at ht
  rcases ht with ht | ht | ht
  · exact h1.low t ht
  · exact h2.low t ht
  · exact h3.low t ht
theorem Tri.kp {w0 w w' : World} {T : List Nat} {x y z : Nat} {A B C : MS} (h : Tri w0 w T x y z A B C) (k : Kp w w') : Tri w0 w' T x y z A B C := by
  obtain ⟨P, Q, R, rfl, h1, h2, h3, h4⟩ := h
  exact ⟨P, Q, R, rfl, h1.kp k, h2.kp k, h3.kp k, h4⟩
/-- from W on, in turn. -/
def Tx (w0 W : World) (T : List Nat) (x y z : Nat) (A B C : MS) (w' : World) : Prop := ∃ T', Tri w0 w' T' x y z A B C ∧ Sp T W w' ∧ Nw W T T'
theorem Tx.kp {w0 W w' w'' : World} {T : List Nat} {x y z : Nat} {A B C : MS} (h : Tx w0 W T x y z A B C w') (k : Kp w' w'') : Tx w0 W T x y z A B C w'' := by
  obtain ⟨T', h1, h2, h3⟩ := h
  exact ⟨T', h1.kp k, h2.trans (k.sp _), h3⟩
theorem Tx.refl {w0 W : World} {T : List Nat} {x y z : Nat} {A B C : MS} (h : Tri w0 W T x y z A B C) : Tx w0 W T x y z A B C W := ⟨T, h, Sp.refl _ _, Nw.refl _ _⟩
theorem Tx.below {w0 W w' : World} {T : List Nat} {x y z : Nat} {A B C : MS} (h : Tx w0 W T x y z A B C w') (K : Kp w0 W) (hT : ∀ t, t ∈ T → w0.heap.size ≤ t) : Kp w0 w' := by
  obtain ⟨T', h1, h2, h3⟩ := h
  exact Sp.kp K h2 hT
theorem Tx.held {w0 W w' : World} {T : List Nat} {x y z : Nat} {A B C : MS} (h : Tx w0 W T x y z A B C w') {b o : Nat} {v : Value} (hc : W.cell? ⟨b, o, none⟩ = some v) (hb : b ∉ T) : w'.cell? ⟨b, o, none⟩ = some v := by
  obtain ⟨T', h1, h2, h3⟩ := h
  exact h2.held hc hb
theorem Tx.trans {w0 W W' w' : World} {T T' : List Nat} {x' y' z' : Nat} {A' B' C' : MS} (h2 : Sp T W W') (h3 : Nw W T T') (h : Tx w0 W' T' x' y' z' A' B' C' w') : Tx w0 W T x' y' z' A' B' C' w' := by
  obtain ⟨T2, q1, q2, q3⟩ := h
  exact ⟨T2, q1, h2.then q2 h3, h3.trans q3 h2.size⟩
theorem mem3 {P P' Q R : List Nat} {w : World} (h : Nw w P P') : Nw w (P ++ (Q ++ R)) (P' ++ (Q ++ R)) := fun t ht => by
  rcases List.mem_append.1 ht with h1 | h1
  · rcases h t h1 with h2 | h2
    · exact .inl (List.mem_append_left _ h2)
    · exact .inr h2
  · exact .inl (List.mem_append_right _ h1)
/-- a call on the first one. -/
theorem Tx.first {w0 W w' : World} {T : List Nat} {x y z : Nat} {A B C : MS} (K : Kp w0 W) (hT : ∀ t, t ∈ T → w0.heap.size ≤ t) (h : Tx w0 W T x y z A B C w') {F : FuncId} {args : Array Value} {E : Ending → Prop} {A' : MS}
    (hc : ∀ P, Ow w0 w' x P A → Kp w0 w' → Calls Try.prog F args w' fun e w'' => E e ∧ Nx w0 w' w'' x P A') : Calls Try.prog F args w' fun e w'' => E e ∧ Tx w0 W T x y z A' B C w'' := by
  have K' := h.below K hT
  obtain ⟨T', ⟨P, Q, R, rfl, h1, h2, h3, d1, d2, d3⟩, q2, q3⟩ := h
  refine (hc P h1 K').mono fun e w'' ⟨he, P', p1, p2, p3⟩ => ⟨he, ?_⟩
  obtain ⟨u1, u2⟩ := Nx.keep p2 p3 h2 d1.symm (b := x) (S := A')
  obtain ⟨v1, v2⟩ := Nx.keep p2 p3 h3 d2.symm (b := x) (S := A')
  refine ⟨P' ++ (Q ++ R), ⟨P', Q, R, rfl, p1, u1, v1, u2.symm, v2.symm, d3⟩, q2.then (p2.mono fun t ht => List.mem_append_left _ ht) q3, q3.trans (mem3 p3) q2.size⟩
theorem Tri.rot {w0 w : World} {T : List Nat} {x y z : Nat} {A B C : MS} (h : Tri w0 w T x y z A B C) : ∃ T', Tri w0 w T' y z x B C A ∧ ∀ t, t ∈ T ↔ t ∈ T' := by
  obtain ⟨P, Q, R, rfl, h1, h2, h3, d1, d2, d3⟩ := h
  refine ⟨Q ++ (R ++ P), ⟨Q, R, P, rfl, h2, h3, h1, d3, d1.symm, d2.symm⟩, fun t => ?_⟩
  simp only [List.mem_append]
  constructor
  · rintro (h | h | h)
    · exact .inr (.inr h)
    · exact .inl h
    · exact .inr (.inl h)
  · rintro (h | h | h)
    · exact .inr (.inl h)
    · exact .inr (.inr h)
    · exact .inl h
theorem Tx.turn {w0 W w' : World} {T : List Nat} {x y z : Nat} {A B C : MS} (h : Tx w0 W T x y z A B C w') : Tx w0 W T y z x B C A w' := by
  obtain ⟨T', h1, h2, h3⟩ := h
  obtain ⟨T2, q1, q2⟩ := h1.rot
  exact ⟨T2, q1, h2, fun t ht => h3 t ((q2 t).2 ht)⟩
theorem Tx.second {w0 W w' : World} {T : List Nat} {x y z : Nat} {A B C : MS} (K : Kp w0 W) (hT : ∀ t, t ∈ T → w0.heap.size ≤ t) (h : Tx w0 W T x y z A B C w') {F : FuncId} {args : Array Value} {E : Ending → Prop} {B' : MS}
    (hc : ∀ P, Ow w0 w' y P B → Kp w0 w' → Calls Try.prog F args w' fun e w'' => E e ∧ Nx w0 w' w'' y P B') : Calls Try.prog F args w' fun e w'' => E e ∧ Tx w0 W T x y z A B' C w'' :=
  (Tx.first K hT h.turn hc).mono fun e w'' ⟨he, h'⟩ => ⟨he, h'.turn.turn⟩
theorem Tx.third {w0 W w' : World} {T : List Nat} {x y z : Nat} {A B C : MS} (K : Kp w0 W) (hT : ∀ t, t ∈ T → w0.heap.size ≤ t) (h : Tx w0 W T x y z A B C w') {F : FuncId} {args : Array Value} {E : Ending → Prop} {C' : MS}
    (hc : ∀ P, Ow w0 w' z P C → Kp w0 w' → Calls Try.prog F args w' fun e w'' => E e ∧ Nx w0 w' w'' z P C') : Calls Try.prog F args w' fun e w'' => E e ∧ Tx w0 W T x y z A B C' w'' :=
  (Tx.first K hT h.turn.turn hc).mono fun e w'' ⟨he, h'⟩ => ⟨he, h'.turn⟩
theorem Tri.sp {w0 w w' : World} {T : List Nat} {x y z : Nat} {A B C : MS} (h : Tri w0 w T x y z A B C) {T' : List Nat} (k : Sp T' w w') (hd : Dj T T') : Tri w0 w' T x y z A B C := by
  obtain ⟨P, Q, R, rfl, h1, h2, h3, h4⟩ := h
  exact ⟨P, Q, R, rfl, h1.sp k (fun t ht => hd t (List.mem_append_left _ ht)), h2.sp k (fun t ht => hd t (List.mem_append_right _ (List.mem_append_left _ ht))), h3.sp k (fun t ht => hd t (List.mem_append_right _ (List.mem_append_right _ ht))), h4⟩
/-- a call on the first one, its blocks among all. -/
theorem Tri.call {w0 w : World} {T : List Nat} {x y z : Nat} {A B C : MS} (h : Tri w0 w T x y z A B C) {F : FuncId} {args : Array Value} {E : Ending → Prop} {A' : MS}
    (hc : ∀ P, (∀ t, t ∈ P → t ∈ T) → Ow w0 w x P A → Calls Try.prog F args w fun e w'' => E e ∧ Nx w0 w w'' x P A') : Calls Try.prog F args w fun e w'' => E e ∧ Tx w0 w T x y z A' B C w'' := by
  obtain ⟨P, Q, R, rfl, h1, h2, h3, d1, d2, d3⟩ := h
  refine (hc P (fun t ht => List.mem_append_left _ ht) h1).mono fun e w'' ⟨he, P', p1, p2, p3⟩ => ⟨he, ?_⟩
  obtain ⟨u1, u2⟩ := Nx.keep p2 p3 h2 d1.symm (b := x) (S := A')
  obtain ⟨v1, v2⟩ := Nx.keep p2 p3 h3 d2.symm (b := x) (S := A')
  exact ⟨P' ++ (Q ++ R), ⟨P', Q, R, rfl, p1, u1, v1, u2.symm, v2.symm, d3⟩, p2.mono (fun t ht => List.mem_append_left _ ht), mem3 p3⟩
theorem Tx.same {w0 W w' : World} {T T' : List Nat} {x y z : Nat} {A B C : MS} (h : Tx w0 W T x y z A B C w') (e : ∀ t, t ∈ T ↔ t ∈ T') : Tx w0 W T' x y z A B C w' := by
  obtain ⟨T2, q1, q2, q3⟩ := h
  exact ⟨T2, q1, q2.mono (fun t ht => (e t).1 ht), fun t ht => (q3 t ht).imp (e t).1 id⟩
theorem Tri.call2 {w0 w : World} {T : List Nat} {x y z : Nat} {A B C : MS} (h : Tri w0 w T x y z A B C) {F : FuncId} {args : Array Value} {E : Ending → Prop} {B' : MS}
    (hc : ∀ P, (∀ t, t ∈ P → t ∈ T) → Ow w0 w y P B → Calls Try.prog F args w fun e w'' => E e ∧ Nx w0 w w'' y P B') : Calls Try.prog F args w fun e w'' => E e ∧ Tx w0 w T x y z A B' C w'' := by
  obtain ⟨T', q1, q2⟩ := h.rot
  refine (q1.call (fun P hP o => hc P (fun t ht => (q2 t).2 (hP t ht)) o)).mono fun e w'' ⟨he, h'⟩ => ⟨he, ?_⟩
  exact (h'.same (fun t => (q2 t).symm)).turn.turn
/-- alike but for the counts. -/
structure Alk (S S' : MS) : Prop where
  now : S.now = S'.now
  las : S.las = S'.las
  row : S.row = S'.row
  dead : S.dead = S'.dead
theorem Alk.refl (S : MS) : Alk S S := ⟨rfl, rfl, rfl, rfl⟩
theorem Alk.rd {S S' : MS} (h : Alk S S') (k : Int) : Alk (rd S k) S' := by
  unfold Go.Proofs.Ytmklkdopmemfaaa.rd
  split
  · exact ⟨h.now, h.las, h.row, h.dead⟩
  · exact h
theorem rc_in {S : MS} {i : Nat} (hd : S.dead = false) (hi : i < S.las.length) : rcE S (i : Int) = 0 := by
  unfold rcE
  rw [hd, if_neg (by simp), if_pos ⟨by omega, by omega⟩]
theorem rd_in {S : MS} {i : Nat} (hd : S.dead = false) (hi : i < S.las.length) : rdS S (i : Int) = S.now.getD i noS := by
  unfold rdS
  rw [if_pos (rc_in hd hi), Int.toNat_natCast]
theorem tk_none (f : Nat → (Nat × ByteArray) → Bool) (hf : ∀ k p, f k p = false) : ∀ (r : List (Nat × ByteArray)) (j : Nat), tk f j r = []
  | [], _ => rfl
  | p :: r, j => by simp only [tk, hf j p, Bool.false_eq_true, if_false]; exact tk_none f hf r (j + 1)
theorem tk_all (f : Nat → (Nat × ByteArray) → Bool) : ∀ (r : List (Nat × ByteArray)) (j : Nat), (∀ k p, k < j + r.length → f k p = true) → tk f j r = r
  | [], _, _ => rfl
  | p :: r, j, hf => by
    simp only [tk, hf j p (by simp), if_true]
    rw [tk_all f r (j + 1) (fun k q hk => hf k q (by simp; omega))]
theorem bit_none (k : Nat) : bit [] k = false := rfl
theorem bit_ones (k : Nat) (h : k < 128) : bit [18446744073709551615, 18446744073709551615] k = true := by
  have hall : ∀ r, r < 64 → 18446744073709551615 / 2 ^ r % 2 = 1 := by decide
  have h1 : k / 64 = 0 ∨ k / 64 = 1 := by omega
  have h2 := hall (k % 64) (Nat.mod_lt _ (by omega))
  unfold bit
  rcases h1 with h1 | h1 <;> rw [h1] <;> simp [h2]
theorem ke_two (w : World) (a c : Nat) (ha : a < 18446744073709551616) (hc : c < 18446744073709551616) (k : Nat) (hk : k = w.heap.size) : KeIn (w.alloc (.cells #[.int .u64 (a : Int), .int .u64 (c : Int)] 138)) (.slice (some ⟨k, 0, none⟩) 2 2) [a, c] :=
  ⟨⟨_, 2, rfl, by simp, by omega, fun _ => ⟨k, 0, rfl, fun i hi => by
    have : i = 0 ∨ i = 1 := by simp at hi; omega
    rw [World.cell?_alloc_at _ _ _ _ hk]
    rcases this with rfl | rfl <;> rfl⟩⟩, fun y hy => by
    simp at hy
    rcases hy with rfl | rfl
    · exact ha
    · exact hc⟩
theorem ke_nil (w : World) : KeIn w (.slice none 0 0) [] := ⟨⟨none, 0, rfl, by simp, by omega, fun h => absurd h (by simp)⟩, fun y hy => by cases hy⟩
theorem fl_facts {S : MS} (h : Right S) (hd : S.dead = false) : Right (fl S) ∧ (fl S).dead = false ∧ (fl S).row = [] ∧ (fl S).now = (fl S).las ∧ (fl S).las.length = S.las.length ∧ flE S = 0 := by
  have e : fl S = ⟨S.now, pl S.las S.row, [], S.dead, up S.c 2⟩ := by unfold fl; rw [hd]; rfl
  refine ⟨h.fl, by rw [e]; exact hd, by rw [e], by rw [e]; exact h.live hd, by rw [e]; exact pl_len _ _, by unfold flE; rw [hd]; rfl⟩
/-- sixteen texts in a block, the first k of them told. -/
structure Ar (w : World) (A k : Nat) (f : Nat → ByteArray) : Prop where
  c : ∀ j, j < k → w.cell? ⟨A, j, none⟩ = some (.string (f j))
  t : w.there A 0 16
theorem Ar.sp {w w' : World} {A k : Nat} {f : Nat → ByteArray} (h : Ar w A k f) {T : List Nat} (q : Sp T w w') (hA : A ∉ T) : Ar w' A k f := ⟨fun j hj => q.held (h.c j hj) hA, q.there h.t hA⟩
theorem Ar.set {w : World} {A k : Nat} {f : Nat → ByteArray} (h : Ar w A k f) (hk : k < 16) : Ar (w.setCell ⟨A, k, none⟩ (.string (f k))) A (k + 1) f := by
  refine ⟨fun j hj => ?_, fun j hj => ?_⟩
  · by_cases e : j = k
    · subst e
      obtain ⟨v, hv⟩ := Option.isSome_iff_exists.1 (h.t j hk).1
      rw [Nat.zero_add] at hv
      exact World.cell?_setCell_same _ _ _ hv
    · rw [cell_off _ _ _ _ _ e]; exact h.c j (by omega)
  · obtain ⟨h1, h2⟩ := h.t j hj
    refine ⟨?_, (World.frozen?_setCell _ _ _ _).trans h2⟩
    by_cases e : 0 + j = k
    · obtain ⟨v, hv⟩ := Option.isSome_iff_exists.1 h1
      rw [e] at hv ⊢
      rw [World.cell?_setCell_same _ _ _ hv]; rfl
    · rw [cell_off _ _ _ _ _ e]; exact h1
theorem Ar.at {w : World} {A k : Nat} {f : Nat → ByteArray} (h : Ar w A k f) (i : Nat) (hi : i < 16) : ∃ v, w.cell? ⟨A, i, none⟩ = some v ∧ w.frozen? ⟨A, i, none⟩ = false := by
  obtain ⟨h1, h2⟩ := h.t i hi
  rw [Nat.zero_add] at h1 h2
  obtain ⟨v, hv⟩ := Option.isSome_iff_exists.1 h1
  exact ⟨v, hv, h2⟩
theorem Nw.not {w : World} {T T' : List Nat} (h : Nw w T T') {A : Nat} (hA : A ∉ T) (hl : A < w.heap.size) : A ∉ T' := fun hm => by
  rcases h A hm with h1 | h1
  · exact hA h1
  · omega

end Go.Proofs.Ytmklkdopmemfaaa
