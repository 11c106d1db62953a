/-
  A reader and the document's bay side by side, with like members: contracts of their calls. Conditions: that they lie in memory.
-/
import Derived.Test.YtonooelffokfkaaGreatDoorZRwRefW
import Derived.Test.YtonooelffokfkaaGreatDoorZRwTwo
namespace Go.Proofs.YtonooelffokfkaaGreatDoor
open Go.RowKit Plain
set_option linter.unusedVariables false

theorem Sm.ldC {B B' : BS} (h : Sm B B') (L : LB) (t : Int) : ldC B' L t = ldC B L t := by
  unfold Go.Proofs.YtonooelffokfkaaGreatDoor.ldC; rw [h.ldE, h.ldR, h.ld]
theorem Sm.ldL {B B' : BS} (h : Sm B B') (L : LB) (t : Int) : ldL B' L t = ldL B L t := by
  unfold Go.Proofs.YtonooelffokfkaaGreatDoor.ldL; rw [h.ldE, h.ld]
theorem Sm.ldK {B B' : BS} (h : Sm B B') (L : LB) (t : Int) : ldK B' L t = ldK B L t := by
  unfold Go.Proofs.YtonooelffokfkaaGreatDoor.ldK; rw [h.ldE, h.ld]
theorem Sm.ldT {B B' : BS} (h : Sm B B') (L : LB) (t : Int) : ldT B' L t = ldT B L t := by
  unfold Go.Proofs.YtonooelffokfkaaGreatDoor.ldT; rw [h.ldE]
theorem Sm.reE {B B' : BS} (h : Sm B B') (n s t c : Int) : reE B' n s t c = reE B n s t c := by
  unfold Go.Proofs.YtonooelffokfkaaGreatDoor.reE; rw [h.rdE]
theorem Sm.reT {B B' : BS} (h : Sm B B') (n s t c : Int) : reT B' n s t c = reT B n s t c := by
  unfold Go.Proofs.YtonooelffokfkaaGreatDoor.reT; rw [h.rdT]
theorem Sm.onE {B B' : BS} (h : Sm B B') (L : LB) (t c : Int) : onE B' L t c = onE B L t c := by
  unfold Go.Proofs.YtonooelffokfkaaGreatDoor.onE; rw [h.ldE, h.ld, h.reE]
theorem Sm.onT {B B' : BS} (h : Sm B B') (L : LB) (t c : Int) : onT B' L t c = onT B L t c := by
  unfold Go.Proofs.YtonooelffokfkaaGreatDoor.onT; rw [h.ldC, h.ld, h.reT]
theorem Sm.coE {B B' : BS} (h : Sm B B') (L : LB) (t c : Int) : coE B' L t c = coE B L t c := by
  unfold Go.Proofs.YtonooelffokfkaaGreatDoor.coE; rw [h.rdE, h.ld]
theorem Sm.coT {B B' : BS} (h : Sm B B') (L : LB) (t c : Int) : coT B' L t c = coT B L t c := by
  unfold Go.Proofs.YtonooelffokfkaaGreatDoor.coT; rw [h.rdT, h.ld]
theorem Sm.wl {B B' : BS} (h : Sm B B') (L : LB) (t : Int) : wlB B' L t = wlB B L t := by
  unfold wlB wlA; rw [h.ld, h.roE, h.roK]

theorem fxC_bd {cnt : Nat → Int} {n : Nat} (h : ∀ j, j < 8 → 0 ≤ cnt j ∧ cnt j ≤ (n : Int)) (A : List ByteArray) (l : List Int) : ∀ j, j < 8 → 0 ≤ fxC cnt A l j ∧ fxC cnt A l j ≤ ((n + 1 : Nat) : Int) := fun j hj => by
  have := h j hj
  unfold fxC
  split
  · by_cases e : j = kdN (A.length - 2) (gnL A l)
    · rw [← e, upL5_same]; omega
    · rw [upL5_ne cnt e]; omega
  · omega
theorem ldN_bd {cnt : Nat → Int} {n : Nat} (h : ∀ j, j < 8 → 0 ≤ cnt j ∧ cnt j ≤ (n : Int)) (B : BS) (L : LB) (t : Int) : ∀ j, j < 8 → 0 ≤ ldN B L t cnt j ∧ ldN B L t cnt j ≤ ((n + 1 : Nat) : Int) := fun j hj => by
  unfold ldN
  split
  · exact fxC_bd h _ _ j hj
  · have := h j hj; omega
theorem onN_bd {cnt : Nat → Int} {n : Nat} (h : ∀ j, j < 8 → 0 ≤ cnt j ∧ cnt j ≤ (n : Int)) (B : BS) (L : LB) (t c : Int) : ∀ j, j < 8 → 0 ≤ onN B L t c cnt j ∧ onN B L t c cnt j ≤ ((n + 1 : Nat) : Int) := fun j hj => by
  have h1 := h j hj
  have h2 := ldN_bd h B L t j hj
  unfold onN
  split
  · split
    · split
      · exact h2
      · omega
    · omega
  · omega

/-- a list of texts, of numbers, whose block is none of F. -/
def Fs (w : World) (F : List Nat) (v : Value) (l : List ByteArray) : Prop := StrsIn w v l ∧ (0 < l.length → ∀ q, v.ownBlock = some q → q ∉ F)
def Fi (w : World) (F : List Nat) (v : Value) (l : List Int) : Prop := IntsIn w v l ∧ (0 < l.length → ∀ q, v.ownBlock = some q → q ∉ F)
theorem StrsIn.sp0 {w w' : World} {v : Value} {l : List ByteArray} {F : List Nat} (h : StrsIn w v l) (k : Sp F w w') (hq : 0 < l.length → ∀ q, v.ownBlock = Option.some q → q ∉ F) : StrsIn w' v l := by
  cases h with
  | empty a cap h => exact .empty a cap h
  | some b off cap l h0 h1 h2 hc => exact .some b off cap l h0 h1 h2 (fun i hi => k.held (hc i hi) (hq h0 b (by simp [Value.ownBlock])))
theorem IntsIn.sp0 {w w' : World} {v : Value} {l : List Int} {F : List Nat} (h : IntsIn w v l) (k : Sp F w w') (hq : 0 < l.length → ∀ q, v.ownBlock = Option.some q → q ∉ F) : IntsIn w' v l := by
  cases h with
  | empty a cap h => exact .empty a cap h
  | some b off cap l h0 h1 h2 hc => exact .some b off cap l h0 h1 h2 (fun i hi => k.held (hc i hi) (hq h0 b (by simp [Value.ownBlock])))
theorem IntsIn.lt0 {w : World} {v : Value} {l : List Int} (h : IntsIn w v l) (hl : 0 < l.length) : ∀ q, v.ownBlock = Option.some q → q < w.heap.size := by
  cases h with
  | empty a cap h => cases hl
  | some b off cap l h0 h1 h2 hc =>
    intro q hq
    have : b = q := by simpa [Value.ownBlock] using hq
    subst this
    exact World.block_lt_of_cell? _ _ (hc 0 h0)

/-- a step: F's blocks alone are changed, F' has of the older ones no other. -/
def Ps (W w w' : World) (F F' : List Nat) : Prop := Sp F w w' ∧ Nw w F F' ∧ Kp W w'
theorem Fs.ps {W w w' : World} {F F' : List Nat} {v : Value} {l : List ByteArray} (h : Fs w F v l) (s : Ps W w w' F F') : Fs w' F' v l :=
  ⟨h.1.sp0 s.1 h.2, fun h0 q hq => nw_out s.2.1 (h.1.lt h0 q hq) (h.2 h0 q hq)⟩
theorem Fi.ps {W w w' : World} {F F' : List Nat} {v : Value} {l : List Int} (h : Fi w F v l) (s : Ps W w w' F F') : Fi w' F' v l :=
  ⟨h.1.sp0 s.1 h.2, fun h0 q hq => nw_out s.2.1 (h.1.lt0 h0 q hq) (h.2 h0 q hq)⟩
theorem Fs.kp {w w' : World} {F : List Nat} {v : Value} {l : List ByteArray} (h : Fs w F v l) (k : Kp w w') : Fs w' F v l := ⟨h.1.kept k, h.2⟩
theorem Fi.kp {w w' : World} {F : List Nat} {v : Value} {l : List Int} (h : Fi w F v l) (k : Kp w w') : Fi w' F v l := ⟨h.1.kept k, h.2⟩

/-- a reader over a bay that is like B0, and the document's bay, likewise. -/
def Rp (W w : World) (r b f g y n : Nat) (B0 : BS) (F : List Nat) : Prop := ∃ T R B D cnt, RdX W w r b f g T B cnt ∧ Dw W w y R D ∧ (∀ t, t ∈ r :: f :: g :: T → t ∉ R) ∧ Sm B0 B ∧ Sm B0 D ∧ (∀ j, j < 8 → 0 ≤ cnt j ∧ cnt j ≤ (n : Int)) ∧ F = r :: f :: g :: (T ++ R)
theorem Rp.kp {W w w' : World} {r b f g y n : Nat} {B0 : BS} {F : List Nat} (h : Rp W w r b f g y n B0 F) (k : Kp w w') : Rp W w' r b f g y n B0 F := by
  obtain ⟨T, R, B, D, cnt, a1, a2, a3, a4⟩ := h
  exact ⟨T, R, B, D, cnt, a1.kp k, OL.dw.sp a2 (k.sp []) (fun _ _ h => by cases h), a3, a4⟩
theorem Rp.low {W w : World} {r b f g y n : Nat} {B0 : BS} {F : List Nat} (h : Rp W w r b f g y n B0 F) : ∀ t, t ∈ F → t < w.heap.size := by
  obtain ⟨T, R, B, D, cnt, a1, a2, _, _, _, _, rfl⟩ := h
  intro t ht
  simp only [List.mem_cons, List.mem_append] at ht
  rcases ht with rfl | rfl | rfl | ht | ht
  · exact a1.hr
  · exact a1.low _ (by simp)
  · exact a1.low _ (by simp)
  · exact a1.low _ (by simp [ht])
  · exact OL.dw.low a2 t ht
theorem Rp.new {W w : World} {r b f g y n : Nat} {B0 : BS} {F : List Nat} (h : Rp W w r b f g y n B0 F) : ∀ t, t ∈ F → W.heap.size ≤ t := by
  obtain ⟨T, R, B, D, cnt, a1, a2, _, _, _, _, rfl⟩ := h
  intro t ht
  simp only [List.mem_cons, List.mem_append] at ht
  rcases ht with rfl | rfl | rfl | ht | ht
  · exact a1.lr
  · exact a1.lf
  · exact a1.lg
  · exact a1.new _ (by simp [ht])
  · exact OL.dw.new a2 t ht

theorem rp_read {W w w' : World} {r b f g y : Nat} {T R T' : List Nat} {B B' D : BS} {cnt cnt' : Nat → Int} (K : Kp W w) (x : RdX W w r b f g T B cnt) (d : Dw W w y R D) (dj : ∀ t, t ∈ r :: f :: g :: T → t ∉ R) (x' : RdX W w' r b f g T' B' cnt') (s : Sp (f :: g :: T) w w') (nw : Nw w T T') :
    Dw W w' y R D ∧ (∀ t, t ∈ r :: f :: g :: T' → t ∉ R) ∧ Ps W w w' (r :: f :: g :: (T ++ R)) (r :: f :: g :: (T' ++ R)) := by
  refine ⟨OL.dw.sp d s (fun t ht hm => dj t (List.mem_cons_of_mem _ hm) ht), fun t ht hm => ?_, s.mono (fun t ht => ?_), fun t ht => ?_, Sp.kp K s x.new⟩
  · have hl := OL.dw.low d t hm
    simp only [List.mem_cons] at ht
    rcases ht with rfl | rfl | rfl | ht
    · exact dj t (by simp) hm
    · exact dj t (by simp) hm
    · exact dj t (by simp) hm
    · rcases nw t ht with h | h
      · exact dj t (by simp [h]) hm
      · omega
  · simp only [List.mem_cons, List.mem_append] at ht ⊢
    rcases ht with h | h | h
    · exact .inr (.inl h)
    · exact .inr (.inr (.inl h))
    · exact .inr (.inr (.inr (.inl h)))
  · simp only [List.mem_cons, List.mem_append] at ht ⊢
    rcases ht with h | h | h | h | h
    · exact .inl (.inl h)
    · exact .inl (.inr (.inl h))
    · exact .inl (.inr (.inr (.inl h)))
    · rcases nw t h with h | h
      · exact .inl (.inr (.inr (.inr (.inl h))))
      · exact .inr h
    · exact .inl (.inr (.inr (.inr (.inr h))))
theorem rp_doc {W w w' : World} {r b f g y : Nat} {T R R' : List Nat} {B D D' : BS} {cnt : Nat → Int} (K : Kp W w) (x : RdX W w r b f g T B cnt) (d : Dw W w y R D) (dj : ∀ t, t ∈ r :: f :: g :: T → t ∉ R) (d' : Dw W w' y R' D') (s : Sp R w w') (nw : Nw w R R') :
    RdX W w' r b f g T B cnt ∧ (∀ t, t ∈ r :: f :: g :: T → t ∉ R') ∧ Ps W w w' (r :: f :: g :: (T ++ R)) (r :: f :: g :: (T ++ R')) := by
  refine ⟨x.sp s dj, fun t ht hm => ?_, s.mono (fun t ht => ?_), fun t ht => ?_, Sp.kp K s (OL.dw.new d)⟩
  · have hl : t < w.heap.size := by
      rcases List.mem_cons.1 ht with rfl | h
      · exact x.hr
      · exact x.low t h
    rcases nw t hm with h | h
    · exact dj t ht h
    · omega
  · simp only [List.mem_cons, List.mem_append]
    exact .inr (.inr (.inr (.inr ht)))
  · simp only [List.mem_cons, List.mem_append] at ht ⊢
    rcases ht with h | h | h | h | h
    · exact .inl (.inl h)
    · exact .inl (.inr (.inl h))
    · exact .inl (.inr (.inr (.inl h)))
    · exact .inl (.inr (.inr (.inr (.inl h))))
    · rcases nw t h with h | h
      · exact .inl (.inr (.inr (.inr (.inr h))))
      · exact .inr h

section
variable {W w : World} {r b f g y n : Nat} {B0 : BS} {F : List Nat}

theorem far_new {T R T' : List Nat} {B D : BS} {cnt : Nat → Int} (x : RdX W w r b f g T B cnt) (d : Dw W w y R D) {q : Nat} (h : w.heap.size ≤ q) (hT : q ∉ T') : q ∉ r :: f :: g :: (T' ++ R) := fun hm => by
  simp only [List.mem_cons, List.mem_append] at hm
  rcases hm with rfl | rfl | rfl | hm | hm
  · have := x.hr; omega
  · have := x.low q (by simp); omega
  · have := x.low q (by simp); omega
  · exact hT hm
  · have := OL.dw.low d q hm; omega
theorem far_newR {T R R' : List Nat} {B D : BS} {cnt : Nat → Int} (x : RdX W w r b f g T B cnt) {q : Nat} (h : w.heap.size ≤ q) (hT : q ∉ R') : q ∉ r :: f :: g :: (T ++ R') := fun hm => by
  simp only [List.mem_cons, List.mem_append] at hm
  rcases hm with rfl | rfl | rfl | hm | hm
  · have := x.hr; omega
  · have := x.low q (by simp); omega
  · have := x.low q (by simp); omega
  · have := x.low q (by simp [hm]); omega
  · exact hT hm

theorem rp_load (h : Rp W w r b f g y n B0 F) (K : Kp W w) (hT : Tab W) (hn : n < 1000) (L : LB) (sv mv : Value) (t : Int) (hN : Nl W sv L.sts ∧ Nl W mv L.mks) : Calls Tryz.prog 24 #[.pointer (some ⟨r, 0, none⟩), lV L.n L.s L.ep sv mv, .int .i64 t] w fun e w' => ∃ cv gv F', e = .returned (.tuple #[.agg #[.int .i64 (ldT B0 L t), cv, gv, .int .i64 (ldK B0 L t)], .int .i64 (ldE B0 L t)]) ∧ Fs w' F' cv (ldC B0 L t) ∧ Fi w' F' gv (ldL B0 L t) ∧ Rp W w' r b f g y (n + 1) B0 F' ∧ Ps W w w' F F' := by
  obtain ⟨T, R, B, D, cnt, x, d, dj, s1, s2, hq, rfl⟩ := h
  refine (lddM_any x K hT (fun j hj => ⟨(hq j hj).1, by have := (hq j hj).2; omega⟩) L sv mv t (fun w' q => ⟨hN.1.kept (Sp.kp K q x.new), hN.2.kept (Sp.kp K q x.new)⟩)).mono ?_
  rintro e w' ⟨cv, gv, B', rfl, a1, a2, a3, T', x', a4, a5, a6, a7⟩
  rw [s1.ldT, s1.ldK, s1.ldE]
  rw [s1.ldC] at a1
  rw [s1.ldL] at a2 a7
  obtain ⟨d', dj', ps⟩ := rp_read K x d dj x' a4 a5
  exact ⟨cv, gv, _, rfl, ⟨a1, fun h0 q hq => far_new x d (a6 q hq).1 (a6 q hq).2⟩, ⟨a2.ints, fun h0 q hq => far_new x d (a7 h0 q hq).1 (a7 h0 q hq).2⟩, ⟨T', R, B', D, _, x', d', dj', s1.trans a3, s2, ldN_bd hq _ _ _, rfl⟩, ps⟩

theorem rp_one (h : Rp W w r b f g y n B0 F) (K : Kp W w) (hT : Tab W) (hn : n < 1000) (L : LB) (sv mv : Value) (t c : Int) (hN : Nl W sv L.sts ∧ Nl W mv L.mks) : Calls Tryz.prog 26 #[.pointer (some ⟨r, 0, none⟩), lV L.n L.s L.ep sv mv, .int .i64 t, .int .i64 c] w fun e w' => ∃ F', e = .returned (.tuple #[.string (onT B0 L t c), .int .i64 (onE B0 L t c)]) ∧ Rp W w' r b f g y (n + 1) B0 F' ∧ Ps W w w' F F' := by
  obtain ⟨T, R, B, D, cnt, x, d, dj, s1, s2, hq, rfl⟩ := h
  refine (one_any x K hT (fun j hj => ⟨(hq j hj).1, by have := (hq j hj).2; omega⟩) L sv mv t c (fun w' q => ⟨hN.1.kept (Sp.kp K q x.new), hN.2.kept (Sp.kp K q x.new)⟩)).mono ?_
  rintro e w' ⟨B', rfl, a3, T', x', a4, a5⟩
  rw [s1.onT, s1.onE]
  obtain ⟨d', dj', ps⟩ := rp_read K x d dj x' a4 a5
  exact ⟨_, rfl, ⟨T', R, B', D, _, x', d', dj', s1.trans a3, s2, onN_bd hq _ _ _ _, rfl⟩, ps⟩

theorem rp_gone (h : Rp W w r b f g y n B0 F) (K : Kp W w) (hT : Tab W) (L : LB) (sv mv : Value) (t : Int) (hN : Nl W sv L.sts ∧ Nl W mv L.mks) : Calls Tryz.prog 28 #[.pointer (some ⟨r, 0, none⟩), lV L.n L.s L.ep sv mv, .int .i64 t] w fun e w' => ∃ v, e = .returned (.tuple #[v, .int .i64 (lsE L t)]) ∧ Fi w' F v (ldG B0 L t) ∧ Rp W w' r b f g y n B0 F ∧ Ps W w w' F F := by
  obtain ⟨T, R, B, D, cnt, x, d, dj, s1, s2, hq, rfl⟩ := h
  refine (gone_any x K hT L sv mv t (fun w' q => ⟨hN.1.kept (Sp.kp K q x.new), hN.2.kept (Sp.kp K q x.new)⟩)).mono ?_
  rintro e w' ⟨v, rfl, a2, x', a4⟩
  have a2' : IntsAt w' w.heap.size v (ldG B0 L t) := by rw [← s1.ld]; exact a2
  obtain ⟨d', dj', ps⟩ := rp_read K x d dj x' (a4.mono (fun t ht => by simp [ht])) (Nw.refl _ _)
  exact ⟨v, rfl, ⟨a2'.ints, fun h0 q hq => far_new x d (a2'.far h0 q hq).1 (fun hm => by have := x.low q (by simp [hm]); have := (a2'.far h0 q hq).1; omega)⟩, ⟨T, R, B, D, _, x', d', dj', s1, s2, hq, rfl⟩, ps⟩

theorem rp_col (h : Rp W w r b f g y n B0 F) (K : Kp W w) (hT : Tab W) (L : LB) (sv mv : Value) (t c : Int) (hN : Nl W sv L.sts ∧ Nl W mv L.mks) : Calls Tryz.prog 30 #[.pointer (some ⟨r, 0, none⟩), lV L.n L.s L.ep sv mv, .int .i64 t, .int .i64 c] w fun e w' => ∃ F', e = .returned (.tuple #[.string (coT B0 L t c), .int .i64 (coE B0 L t c)]) ∧ Rp W w' r b f g y n B0 F' ∧ Ps W w w' F F' := by
  obtain ⟨T, R, B, D, cnt, x, d, dj, s1, s2, hq, rfl⟩ := h
  refine (col_any x K hT L sv mv t c (fun w' q => ⟨hN.1.kept (Sp.kp K q x.new), hN.2.kept (Sp.kp K q x.new)⟩)).mono ?_
  rintro e w' ⟨B', rfl, a3, T', x', a4, a5⟩
  rw [s1.coT, s1.coE]
  obtain ⟨d', dj', ps⟩ := rp_read K x d dj x' a4 a5
  exact ⟨_, rfl, ⟨T', R, B', D, _, x', d', dj', s1.trans a3, s2, hq, rfl⟩, ps⟩

theorem rp_whole (h : Rp W w r b f g y n B0 F) (K : Kp W w) (hT : Tab W) (L : LB) (sv mv : Value) (t : Int) (hN : Nl W sv L.sts ∧ Nl W mv L.mks) : Calls Tryz.prog 33 #[.pointer (some ⟨r, 0, none⟩), lV L.n L.s L.ep sv mv, .int .i64 t] w fun e w' => ∃ F', e = .returned (.bool (wlB B0 L t)) ∧ Rp W w' r b f g y n B0 F' ∧ Ps W w w' F F' := by
  obtain ⟨T, R, B, D, cnt, x, d, dj, s1, s2, hq, rfl⟩ := h
  refine (whole_any x K hT L sv mv t (fun w' q => ⟨hN.1.kept (Sp.kp K q x.new), hN.2.kept (Sp.kp K q x.new)⟩)).mono ?_
  rintro e w' ⟨B', rfl, a3, T', x', a4, a5⟩
  rw [s1.wl]
  obtain ⟨d', dj', ps⟩ := rp_read K x d dj x' a4 a5
  exact ⟨_, rfl, ⟨T', R, B', D, _, x', d', dj', s1.trans a3, s2, hq, rfl⟩, ps⟩

theorem rd_load (h : Rp W w r b f g y n B0 F) (K : Kp W w) (L : LB) (sv mv : Value) (t : Int) (hN : Nl W sv L.sts ∧ Nl W mv L.mks) : Calls Tryz.prog 25 #[.pointer (some ⟨y, 0, none⟩), lV L.n L.s L.ep sv mv, .int .i64 t] w fun e w' => ∃ cv gv F', e = .returned (.tuple #[cv, gv, .int .i64 (ldK B0 L t), .int .i64 (ldE B0 L t)]) ∧ Fs w' F' cv (ldC B0 L t) ∧ Fi w' F' gv (ldL B0 L t) ∧ Rp W w' r b f g y n B0 F' ∧ Ps W w w' F F' := by
  obtain ⟨T, R, B, D, cnt, x, d, dj, s1, s2, hq, rfl⟩ := h
  refine (rloadN_any d K L sv mv t (hN.1.kept K) (hN.2.kept K)).mono ?_
  rintro e w' ⟨cv, gv, D', rfl, a1, a2, a3, R', d', a4, a5, a6, a7⟩
  rw [s2.ldK, s2.ldE]
  rw [s2.ldC] at a1
  rw [s2.ldL] at a2 a7
  obtain ⟨x', dj', ps⟩ := rp_doc K x d dj d' a4 a5
  exact ⟨cv, gv, _, rfl, ⟨a1, fun h0 q hq => far_newR (D := D) (R := R) x (a6 q hq).1 (a6 q hq).2⟩, ⟨a2.ints, fun h0 q hq => far_newR (D := D) (R := R) x (a7 h0 q hq).1 (a7 h0 q hq).2⟩, ⟨T, R', B, D', _, x', d', dj', s1, s2.trans a3, hq, rfl⟩, ps⟩

theorem rd_one (h : Rp W w r b f g y n B0 F) (K : Kp W w) (L : LB) (sv mv : Value) (t c : Int) (hN : Nl W sv L.sts ∧ Nl W mv L.mks) : Calls Tryz.prog 27 #[.pointer (some ⟨y, 0, none⟩), lV L.n L.s L.ep sv mv, .int .i64 t, .int .i64 c] w fun e w' => ∃ F', e = .returned (.tuple #[.string (onT B0 L t c), .int .i64 (onE B0 L t c)]) ∧ Rp W w' r b f g y n B0 F' ∧ Ps W w w' F F' := by
  obtain ⟨T, R, B, D, cnt, x, d, dj, s1, s2, hq, rfl⟩ := h
  refine (rone_any d K L sv mv t c (hN.1.kept K) (hN.2.kept K)).mono ?_
  rintro e w' ⟨D', rfl, a3, R', d', a4, a5⟩
  rw [s2.onT, s2.onE]
  obtain ⟨x', dj', ps⟩ := rp_doc K x d dj d' a4 a5
  exact ⟨_, rfl, ⟨T, R', B, D', _, x', d', dj', s1, s2.trans a3, hq, rfl⟩, ps⟩

theorem rd_gone (h : Rp W w r b f g y n B0 F) (K : Kp W w) (L : LB) (sv mv : Value) (t : Int) (hN : Nl W sv L.sts ∧ Nl W mv L.mks) : Calls Tryz.prog 29 #[.pointer (some ⟨y, 0, none⟩), lV L.n L.s L.ep sv mv, .int .i64 t] w fun e w' => ∃ v, e = .returned (.tuple #[v, .int .i64 (lsE L t)]) ∧ IntsIn w' v (ldG B0 L t) ∧ Kp w w' := by
  obtain ⟨T, R, B, D, cnt, x, d, dj, s1, s2, hq, rfl⟩ := h
  refine (rgone_any d L sv mv t (hN.1.kept K) (hN.2.kept K)).mono ?_
  rintro e w' ⟨v, rfl, a2, k⟩
  rw [s2.ld] at a2
  exact ⟨v, rfl, a2.ints, k⟩

theorem rd_col (h : Rp W w r b f g y n B0 F) (K : Kp W w) (L : LB) (sv mv : Value) (t c : Int) (hN : Nl W sv L.sts ∧ Nl W mv L.mks) : Calls Tryz.prog 31 #[.pointer (some ⟨y, 0, none⟩), lV L.n L.s L.ep sv mv, .int .i64 t, .int .i64 c] w fun e w' => ∃ F', e = .returned (.tuple #[.string (coT B0 L t c), .int .i64 (coE B0 L t c)]) ∧ Rp W w' r b f g y n B0 F' ∧ Ps W w w' F F' := by
  obtain ⟨T, R, B, D, cnt, x, d, dj, s1, s2, hq, rfl⟩ := h
  refine (rcol_any d K L sv mv t c (hN.1.kept K) (hN.2.kept K)).mono ?_
  rintro e w' ⟨D', rfl, a3, R', d', a4, a5⟩
  rw [s2.coT, s2.coE]
  obtain ⟨x', dj', ps⟩ := rp_doc K x d dj d' a4 a5
  exact ⟨_, rfl, ⟨T, R', B, D', _, x', d', dj', s1, s2.trans a3, hq, rfl⟩, ps⟩

theorem rd_whole (h : Rp W w r b f g y n B0 F) (K : Kp W w) (L : LB) (sv mv : Value) (t : Int) (hN : Nl W sv L.sts ∧ Nl W mv L.mks) : Calls Tryz.prog 34 #[.pointer (some ⟨y, 0, none⟩), lV L.n L.s L.ep sv mv, .int .i64 t] w fun e w' => ∃ F', e = .returned (.bool (wlB B0 L t)) ∧ Rp W w' r b f g y n B0 F' ∧ Ps W w w' F F' := by
  obtain ⟨T, R, B, D, cnt, x, d, dj, s1, s2, hq, rfl⟩ := h
  refine (rwhole16 d K L sv mv t (hN.1.kept K) (hN.2.kept K)).mono ?_
  rintro e w' ⟨D', rfl, a3, R', d', a4, a5⟩
  rw [s2.wl]
  obtain ⟨x', dj', ps⟩ := rp_doc K x d dj d' a4 a5
  exact ⟨_, rfl, ⟨T, R', B, D', _, x', d', dj', s1, s2.trans a3, hq, rfl⟩, ps⟩
end

end Go.Proofs.YtonooelffokfkaaGreatDoor
