/-
  A planner of which blocks are asked one behind the other: what is told then. A planner in use (Pu). Conditions: those of Pu.
-/
import Derived.Test.YtpeckfeiaomieaaAhMap
namespace Go.Proofs.Ytpeckfeiaomieaa
open Go.RowKit Plain
set_option linter.unusedVariables false

/-- ahead of the Note of b, in a run that began at f. -/
structure Rn (f : Int) (S : AS) (b : Int) : Prop where
  lo : f ≤ b
  st : b = f → S.r = 0
  nx : f < b → S.n = b ∧ S.r = b - f ∧ f + 1 ≤ S.e
  sv : f + 2 ≤ b → b < S.e ∨ S.B ≤ b
  e1 : b = f + 1 → S.e = f + 1
theorem Rn.new (f B R M : Int) : Rn f (newS B R M) f := ⟨Int.le_refl _, fun _ => rfl, fun h => by omega, fun h => by omega, fun h => by omega⟩
structure Rs (f : Int) (S : AS) (b : Int) : Prop where
  rn : Rn f (ntS S b) (b + 1)
  no : ntB S b = false → ntF S b = 0 ∧ ntT S b = 0 ∧ ((f < b ∧ (ntS S b).e = S.e) ∨ (b = f ∧ (ntS S b).e = f + 1))
  yes : ntB S b = true → f < b ∧ ntF S b = max S.e (b + 1) ∧ f + 2 ≤ ntF S b ∧ b < ntF S b ∧ 0 ≤ ntF S b ∧ ntF S b < ntT S b ∧ ntT S b ≤ S.B ∧ ntT S b - ntF S b ≤ S.M + S.R ∧ (ntS S b).e = ntT S b
theorem Rn.note {f b : Int} {S : AS} (h : Rn f S b) (hk : Ak S) (hf : 0 ≤ f) (hb : b < S.B) : Rs f S b := by
  obtain ⟨lo, st, nx, sv, e1⟩ := h
  have hb0 : 0 ≤ b := by omega
  by_cases h0 : b = f
  · have ha := ask_new (S := S) (b := b) (.inl (st h0))
    have hw : wayS S b = 1 := way1.2 ⟨⟨hb0, hb⟩, .inl (by rw [ha]; simp only; omega)⟩
    have e1 := (nt_at _ hw).1
    have e2 := (nt_at _ hw).2
    have e3 : ntS S b = ⟨b + 1, 1, 0, b + 1, S.B, S.R, S.M⟩ := by rw [e1]; exact ha
    refine ⟨?_, fun _ => ⟨(nt_zero (by omega)).1, (nt_zero (by omega)).2, .inr ⟨h0, by rw [e3]; simp only; omega⟩⟩, fun h => by rw [e2] at h; cases h⟩
    rw [e3]
    exact ⟨by omega, fun h => by omega, fun _ => ⟨rfl, by simp only; omega, by simp only; omega⟩, fun h => by omega, fun h => by simp only; omega⟩
  · obtain ⟨n1, n2, n3⟩ := nx (by omega)
    have hn : ¬(S.r = 0 ∨ b ≠ S.n) := by omega
    have ha := ask_on (S := S) (b := b) hn
    have hr2 : 2 ≤ (askS S b).r := by rw [ha]; simp only; omega
    have ak := hk.ask hb0 hb
    have hto := ak.wid.to
    have hrd := rd_le (x := (widS (askS S b)).n + (widS (askS S b)).w) ak.wid.R1
    have hM1 := hk.M1
    have hR1 := hk.R1
    have hw1 := hk.w1
    have hfr : frS (widS (askS S b)) = max S.e (b + 1) := by rw [ha]; rfl
    have hwi : (widS (askS S b)).w = min (max (2 * S.w) 2) S.M := by rw [ha]; rfl
    have hwn : (widS (askS S b)).n = b + 1 := by rw [ha]; rfl
    have hwB : (widS (askS S b)).B = S.B := by rw [ha]; rfl
    have hwR : (widS (askS S b)).R = S.R := by rw [ha]; rfl
    have htl : toS (widS (askS S b)) ≤ rdI ((widS (askS S b)).n + (widS (askS S b)).w) (widS (askS S b)).R := Int.min_le_left _ _
    rw [hwR] at hrd htl
    cases hfar : farS (askS S b) with
    | true =>
      have hw : wayS S b = 1 := way1.2 ⟨⟨hb0, hb⟩, .inr hfar⟩
      have e1 := (nt_at _ hw).1
      have e2 := (nt_at _ hw).2
      have e3 : ntS S b = ⟨b + 1, S.r + 1, S.w, S.e, S.B, S.R, S.M⟩ := by rw [e1]; exact ha
      have hfar2 : S.w / 2 < S.e - (b + 1) := by rw [ha] at hfar; exact of_decide_eq_true hfar
      refine ⟨?_, fun _ => ⟨(nt_zero (by omega)).1, (nt_zero (by omega)).2, .inl ⟨by omega, by rw [e3]⟩⟩, fun h => by rw [e2] at h; cases h⟩
      rw [e3]
      exact ⟨by omega, fun h => by omega, fun _ => ⟨rfl, by simp only; omega, n3⟩, fun h => .inl (by simp only; omega), fun h => by omega⟩
    | false =>
      by_cases hle : toS (widS (askS S b)) ≤ frS (widS (askS S b))
      · have hw : wayS S b = 2 := way2.2 ⟨⟨hb0, hb⟩, ⟨hr2, hfar⟩, hle⟩
        have e1 := (nt_at _ hw).1
        have e2 := (nt_at _ hw).2
        have e3 : ntS S b = ⟨b + 1, S.r + 1, min (max (2 * S.w) 2) S.M, S.e, S.B, S.R, S.M⟩ := by rw [e1]; show widS (askS S b) = _; rw [ha]; rfl
        rw [hfr] at hle
        rw [hwn, hwi, hwB] at hto
        refine ⟨?_, fun _ => ⟨(nt_zero (by omega)).1, (nt_zero (by omega)).2, .inl ⟨by omega, by rw [e3]⟩⟩, fun h => by rw [e2] at h; cases h⟩
        rw [e3]
        exact ⟨by omega, fun h => by omega, fun _ => ⟨rfl, by simp only; omega, n3⟩, fun h => by simp only; omega, fun h => by omega⟩
      · have hw : wayS S b = 3 := way3.2 ⟨⟨hb0, hb⟩, ⟨hr2, hfar⟩, by omega⟩
        have e1 := (nt_at _ hw).1
        have e2 := (nt_at _ hw).2
        obtain ⟨f1, f2⟩ := nt_told hw
        obtain ⟨tt, htt⟩ : ∃ x, x = toS (widS (askS S b)) := ⟨_, rfl⟩
        have e3 : ntS S b = ⟨b + 1, S.r + 1, min (max (2 * S.w) 2) S.M, tt, S.B, S.R, S.M⟩ := by rw [e1]; show endS (widS (askS S b)) = _; rw [htt, ha]; rfl
        rw [← htt] at f2 hto hle htl
        rw [hfr] at f1 hle
        rw [hwn, hwi, hwB] at hto
        rw [hwn, hwi] at hrd htl
        refine ⟨?_, fun h => (by rw [e2] at h; cases h), fun _ => ⟨by omega, f1, by rw [f1]; omega, by rw [f1]; omega, by rw [f1]; omega, by rw [f1, f2]; omega, by rw [f2]; omega, by rw [f1, f2]; omega, by rw [e3, f2]⟩⟩
        rw [e3]
        exact ⟨by omega, fun h => by omega, fun _ => ⟨rfl, by simp only; omega, by simp only; omega⟩, fun h => by simp only; omega, fun h => by omega⟩

theorem sv_next {f b : Int} {S : AS} (h : Rn f S b) (hs : Rs f S b) (hb : b < S.B) {T T' : Int → Bool} (hT : f < b → ∀ x, f + 2 ≤ x → x < S.e → T x = true) (h1 : ∀ x, T x = true → T' x = true) (h2 : ∀ x, ntF S b ≤ x → x < ntT S b → T' x = true) : ∀ x, f + 2 ≤ x → x < (ntS S b).e → T' x = true := fun x hx1 hx2 => by
  cases hB : ntB S b with
  | false =>
    obtain ⟨_, _, q⟩ := hs.no hB
    rcases q with ⟨q1, q2⟩ | ⟨q1, q2⟩
    · exact h1 x (hT q1 x hx1 (by omega))
    · omega
  | true =>
    obtain ⟨q1, q2, q3, q4, q5, q6, q7, q8, q9⟩ := hs.yes hB
    by_cases g1 : x < S.e
    · exact h1 x (hT q1 x hx1 g1)
    · by_cases g2 : ntF S b ≤ x
      · exact h2 x g2 (by omega)
      · have := h.sv
        omega
theorem n_next {f b : Int} {S : AS} (hs : Rs f S b) (hf : 0 ≤ f) {n n' : Nat} (h0 : b = f → n = 0) (h1 : f < b → (n : Int) ≤ S.e) (h2 : (n' : Int) = n + max 0 (ntT S b - ntF S b)) : (n' : Int) ≤ (ntS S b).e := by
  cases hB : ntB S b with
  | false =>
    obtain ⟨z1, z2, q⟩ := hs.no hB
    rcases q with ⟨q1, q2⟩ | ⟨q1, q2⟩
    · have := h1 q1; omega
    · have := h0 q1; omega
  | true =>
    obtain ⟨q1, q2, q3, q4, q5, q6, q7, q8, q9⟩ := hs.yes hB
    have := h1 q1
    omega
/-- what is told, as it goes on from i. -/
theorem tell {f b : Int} {S : AS} (hs : Rs f S b) (hk : S.B ≤ 300) {n : Nat} (h0 : b = f → n = 0) (h1 : f < b → (n : Int) ≤ S.e) {i : Int} (hi1 : ntF S b ≤ i) (hi2 : i < ntT S b) : f < b ∧ 0 ≤ i ∧ i < 300 ∧ (n : Int) + (i - ntF S b) < 300 ∧ S.e ≤ i ∧ ntB S b = true := by
  cases hB : ntB S b with
  | false =>
    obtain ⟨z1, z2, q⟩ := hs.no hB
    omega
  | true =>
    obtain ⟨q1, q2, q3, q4, q5, q6, q7, q8, q9⟩ := hs.yes hB
    have := h1 q1
    exact ⟨q1, by omega, by omega, by omega, by omega, rfl⟩

/-! ### a planner in use -/
def Pu (w0 w : World) (a : Nat) (S : AS) (X : List Nat) : Prop := At w a S ∧ Ak S ∧ Kp w0 w ∧ w0.heap.size ≤ a ∧ ∀ x ∈ X, x ≠ a ∧ x < w.heap.size
def Lk (X : List Nat) (w w' : World) : Prop := ∀ x ∈ X, w'.heap[x]? = w.heap[x]?
theorem Lk.trans {X : List Nat} {a b c : World} (h : Lk X a b) (k : Lk X b c) : Lk X a c := fun x hx => (k x hx).trans (h x hx)
section
variable {w0 w w' : World} {a : Nat} {S S' : AS} {X : List Nat}
theorem Pu.k (h : Pu w0 w a S X) : Kp w0 w := h.2.2.1
theorem Pu.ak (h : Pu w0 w a S X) : Ak S := h.2.1
theorem Pu.kp (h : Pu w0 w a S X) (k : Kp w w') : Pu w0 w' a S X ∧ Lk X w w' := by
  obtain ⟨h1, h2, h3, h4, h5⟩ := h
  exact ⟨⟨h1.kp k, h2, h3.trans k, h4, fun x hx => ⟨(h5 x hx).1, Nat.lt_of_lt_of_le (h5 x hx).2 k.size⟩⟩, fun x hx => k.block x (h5 x hx).2⟩
theorem Pu.sp (h : Pu w0 w a S X) {T' : List Nat} (k : Sp T' w w') (hT : ∀ t ∈ T', t ∈ X ∧ w0.heap.size ≤ t) : Pu w0 w' a S X := by
  obtain ⟨h1, h2, h3, h4, h5⟩ := h
  exact ⟨h1.sp k (fun ht => (h5 a (hT a ht).1).1 rfl), h2, Sp.kp h3 k (fun t ht => (hT t ht).2), h4, fun x hx => ⟨(h5 x hx).1, Nat.lt_of_lt_of_le (h5 x hx).2 k.size⟩⟩
theorem Pu.more (h : Pu w0 w a S X) (k : Kp w w') {M : Nat} (h1 : w.heap.size ≤ M) (h2 : M < w'.heap.size) : Pu w0 w' a S (M :: X) := by
  obtain ⟨q1, q2, q3, q4, q5⟩ := h
  refine ⟨q1.kp k, q2, q3.trans k, q4, fun x hx => ?_⟩
  rcases List.mem_cons.1 hx with rfl | hx
  · exact ⟨fun e => by have := q1.lt; omega, h2⟩
  · exact ⟨(q5 x hx).1, Nat.lt_of_lt_of_le (q5 x hx).2 k.size⟩
theorem Pu.to (h : Pu w0 w a S X) (h1 : At w' a S') (h2 : Ak S') (k : Sp [a] w w') : Pu w0 w' a S' X ∧ Lk X w w' := by
  obtain ⟨q1, q2, q3, q4, q5⟩ := h
  exact ⟨⟨h1, h2, Sp.kp q3 k (fun t ht => by simp at ht; omega), q4, fun x hx => ⟨(q5 x hx).1, Nat.lt_of_lt_of_le (q5 x hx).2 k.size⟩⟩, fun x hx => k.block x (q5 x hx).2 (by simp; exact (q5 x hx).1)⟩
theorem Pu.note (h : Pu w0 w a S X) (b : Int) : Calls Try.prog 11 #[.pointer (some ⟨a, 0, none⟩), .int .i64 b] w fun x w' => x = .returned (.tuple #[.agg #[.int .i64 (ntF S b), .int .i64 (ntT S b)], .bool (ntB S b)]) ∧ Pu w0 w' a (ntS S b) X ∧ Lk X w w' := by
  refine (note_any h.1 h.2.1 b).mono ?_
  rintro e w' ⟨rfl, h1, k⟩
  exact ⟨rfl, h.to h1 (h.2.1.nt b) k⟩
theorem Pu.run (h : Pu w0 w a S X) : Calls Try.prog 13 #[.pointer (some ⟨a, 0, none⟩)] w fun x w' => x = .returned (.int .i64 S.r) ∧ Pu w0 w' a S X ∧ Lk X w w' := by
  refine (run_any h.1).mono ?_
  rintro e w' ⟨rfl, k⟩
  exact ⟨rfl, h.kp k⟩
theorem Pu.win (h : Pu w0 w a S X) : Calls Try.prog 14 #[.pointer (some ⟨a, 0, none⟩)] w fun x w' => x = .returned (.int .i64 S.w) ∧ Pu w0 w' a S X ∧ Lk X w w' := by
  refine (window_any h.1).mono ?_
  rintro e w' ⟨rfl, k⟩
  exact ⟨rfl, h.kp k⟩
theorem Pu.new (B R M : Int) (h : newOk B R M) (w : World) : Calls Try.prog 7 #[.int .i64 B, .int .i64 R, .int .i64 M] w fun x w' => ∃ a, x = .returned (.tuple #[.pointer (some ⟨a, 0, none⟩), .int .i64 0]) ∧ Pu w w' a (newS B R M) [] := by
  refine (new_ok B R M h w).mono ?_
  rintro e w' ⟨a, rfl, h1, h2, h3⟩
  obtain ⟨⟨g1, g2⟩, ⟨g3, g4⟩, g5, g6⟩ := h
  exact ⟨a, rfl, h1, Ak.new g1 g2 g3 g4 g5 g6, h2, h3, by simp⟩
end
theorem Lk.at {X : List Nat} {w w' : World} (h : Lk X w w') {b : Nat} (hb : b ∈ X) {o : Obj} (e : w.heap[b]? = some o) : w'.heap[b]? = some o := (h b hb).trans e

/-! ### wakes -/
theorem wk1 : ntS (newS 100 3 8) 10 = ⟨11, 1, 0, 11, 100, 3, 8⟩ ∧ ntB (newS 100 3 8) 10 = false ∧ ntF (newS 100 3 8) 10 = 0 ∧ ntT (newS 100 3 8) 10 = 0 := ⟨rfl, rfl, rfl, rfl⟩
theorem wk2 : ntS ⟨11, 1, 0, 11, 100, 3, 8⟩ 11 = ⟨12, 2, 2, 15, 100, 3, 8⟩ ∧ ntB ⟨11, 1, 0, 11, 100, 3, 8⟩ 11 = true ∧ ntF ⟨11, 1, 0, 11, 100, 3, 8⟩ 11 = 12 ∧ ntT ⟨11, 1, 0, 11, 100, 3, 8⟩ 11 = 15 := ⟨rfl, rfl, rfl, rfl⟩
theorem wk3 : ntS ⟨12, 2, 2, 15, 100, 3, 8⟩ 12 = ⟨13, 3, 2, 15, 100, 3, 8⟩ ∧ ntB ⟨12, 2, 2, 15, 100, 3, 8⟩ 12 = false ∧ ntF ⟨12, 2, 2, 15, 100, 3, 8⟩ 12 = 0 ∧ ntT ⟨12, 2, 2, 15, 100, 3, 8⟩ 12 = 0 := ⟨rfl, rfl, rfl, rfl⟩
theorem wk4 : ntS ⟨13, 3, 2, 15, 100, 3, 8⟩ 13 = ⟨14, 4, 4, 18, 100, 3, 8⟩ ∧ ntB ⟨13, 3, 2, 15, 100, 3, 8⟩ 13 = true ∧ ntF ⟨13, 3, 2, 15, 100, 3, 8⟩ 13 = 15 ∧ ntT ⟨13, 3, 2, 15, 100, 3, 8⟩ 13 = 18 := ⟨rfl, rfl, rfl, rfl⟩
set_option maxRecDepth 100000 in
set_option maxHeartbeats 4000000 in
theorem wakes_any (w : World) : Calls Try.prog 15 #[] w fun e w' => e = .returned (.bool true) ∧ Kp w w' := by
  have hN := Pu.new 100 3 8 (by unfold newOk; omega) w
  go_enter Try.func15, Try.ntmps15
  go_wp2_with fail
  refine hN.mono ?_; rintro e w1 ⟨a, rfl, x1⟩
  have h1 := x1.note 10
  rw [wk1.1, wk1.2.1, wk1.2.2.1, wk1.2.2.2] at h1
  clear hN x1
  go_wp2_with fail
  refine h1.mono ?_; rintro e w2 ⟨rfl, x2, _⟩
  obtain ⟨U, hU⟩ : ∃ U, U = w2.alloc (.cells #[.int .i64 0, .int .i64 0] 34) := ⟨_, rfl⟩
  have x2' := (x2.kp (w' := U) (by rw [hU]; exact (Kp.refl w2).alloc _)).1
  have h2 := x2'.note 11
  rw [wk2.1, wk2.2.1, wk2.2.2.1, wk2.2.2.2] at h2
  have HU := hid hU
  clear h1 x2 x2' hU
  go_upto_region 3 with fail
  rw [← HU.out]
  clear HU
  go_wp2_with fail
  refine h2.mono ?_; rintro e w3 ⟨rfl, x3, _⟩
  obtain ⟨U3, hU⟩ : ∃ U, U = w3.alloc (.cells #[.int .i64 12, .int .i64 15] 34) := ⟨_, rfl⟩
  obtain ⟨P3, hP⟩ : ∃ P, P = w3.heap.size := ⟨_, rfl⟩
  have b3 : U3.heap[P3]? = some (.cells #[.int .i64 12, .int .i64 15] 34 (0, 0)) := by rw [hU, hP]; exact new_obj _ _ _
  have x3' := x3.more (w' := U3) (M := P3) (by rw [hU]; exact (Kp.refl w3).alloc _) (by omega) (heap_lt b3)
  have h3 := x3'.note 12
  rw [wk3.1, wk3.2.1, wk3.2.2.1, wk3.2.2.2] at h3
  have HU := hid (And.intro hU hP)
  clear h2 x3 x3' hU hP
  go_upto_region 4 with fail
  rw [← HU.out.1, ← HU.out.2]
  clear HU
  go_wp2_with fail
  refine h3.mono ?_; rintro e w4 ⟨rfl, x4, l4⟩
  have b4 := l4.at (by simp) b3
  obtain ⟨U, hU⟩ : ∃ U, U = w4.alloc (.cells #[.int .i64 0, .int .i64 0] 34) := ⟨_, rfl⟩
  have q4 := x4.kp (w' := U) (by rw [hU]; exact (Kp.refl w4).alloc _)
  have b5 := q4.2.at (by simp) b4
  have h4 := q4.1.note 13
  rw [wk4.1, wk4.2.1, wk4.2.2.1, wk4.2.2.2] at h4
  have HU := hid hU
  clear h3 x4 q4 hU b4 b3 l4
  go_upto_region 5 with fail
  rw [← HU.out]
  clear HU
  go_wp2_with fail
  refine h4.mono ?_; rintro e w6 ⟨rfl, x6, l6⟩
  have b6 := l6.at (by simp) b5
  obtain ⟨V, hV⟩ : ∃ U, U = w6.alloc (.cells #[.int .i64 15, .int .i64 18] 34) := ⟨_, rfl⟩
  obtain ⟨Q, hQ⟩ : ∃ P, P = w6.heap.size := ⟨_, rfl⟩
  have b7 : V.heap[Q]? = some (.cells #[.int .i64 15, .int .i64 18] 34 (0, 0)) := by rw [hV, hQ]; exact new_obj _ _ _
  have q7 := x6.kp (w' := V) (by rw [hV]; exact (Kp.refl w6).alloc _)
  have b8 := q7.2.at (by simp) b6
  have c0 := cell_of b8 0
  have c1 := cell_of b8 1
  have d0 := cell_of b7 0
  have d1 := cell_of b7 1
  have hR := q7.1.run
  have HU := hid (And.intro hV hQ)
  clear h4 x6 q7 hV hQ b5 b6 b7 b8 l6
  go_upto_region 6 with fail
  rw [← HU.out.1, ← HU.out.2]
  clear HU
  go_wp2_with fail
  refine hR.mono ?_; rintro e w9 ⟨rfl, x9, _⟩
  have HK := hid x9.k
  clear hR x9 c0 c1 d0 d1
  go_wp2
  go_ret
  exact ⟨by simp, HK.out⟩

end Go.Proofs.Ytpeckfeiaomieaa
