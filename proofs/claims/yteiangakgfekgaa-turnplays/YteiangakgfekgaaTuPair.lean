/-
  Both turns in memory side by side, a block beside them (Pm), and the calls on them. Conditions: those of the calls' contracts.
-/
import Derived.Test.YteiangakgfekgaaTuSame
namespace Go.Proofs.Yteiangakgfekgaa
open Go.RowKit Plain
set_option linter.unusedVariables false

/-- the same, behind so many acts. -/
structure Bt (S : TS) (R : RS) (q : Nat) : Prop where
  g : Gd S
  r : Rl S R
  n : S.n ≤ q
  c0 : 0 ≤ R.c
  c : R.c ≤ 2 * (q : Int)
section
variable {S : TS} {R R' : RS} {q : Nat}
theorem Bt.more (h : Bt S R q) : Bt S R (q + 1) := ⟨h.g, h.r, Nat.le_succ_of_le h.n, h.c0, by have := h.c; omega⟩
theorem Bt.touch (h : Bt S R q) (k : Int) (hr : Rl (toS S k) R') (h0 : 0 ≤ R'.c) (hc : R'.c ≤ R.c + 2) : Bt (toS S k) R' (q + 1) :=
  ⟨h.g.touch k, hr, by rw [(to_K S k).2.2.2]; have := h.n; omega, h0, by have := h.c; omega⟩
theorem Bt.pin (h : Bt S R q) (k : Int) (on : Bool) (hr : Rl (pnS S k on) R') (h0 : 0 ≤ R'.c) (hc : R'.c ≤ R.c) : Bt (pnS S k on) R' (q + 1) := by
  refine ⟨h.g.pin k on, hr, ?_, h0, by have := h.c; omega⟩
  unfold pnS
  split
  · exact Nat.succ_le_succ h.n
  · exact Nat.le_succ_of_le h.n
theorem Bt.drop (h : Bt S R q) (k : Int) (hr : Rl (drS S k) R') (h0 : 0 ≤ R'.c) (hc : R'.c ≤ R.c) : Bt (drS S k) R' (q + 1) := by
  refine ⟨h.g.drop k, hr, ?_, h0, by have := h.c; omega⟩
  unfold drS
  split <;> exact Nat.le_succ_of_le h.n
theorem Bt.add (h : Bt S R q) {k : Int} (hk : iOk k) (hr : Rl (adS S k) R') (h0 : 0 ≤ R'.c) (hc : R'.c ≤ R.c + 1) : Bt (adS S k) R' (q + 1) := by
  refine ⟨h.g.add hk, hr, ?_, h0, by have := h.c; omega⟩
  by_cases e : adE S k = 0
  · rw [ad_ok e]; exact Nat.le_succ_of_le h.n
  · rw [ad_no e]; exact Nat.le_succ_of_le h.n
end
def Pz (w X : World) (t r : Nat) (S : TS) (q : Nat) : Prop := ∃ R T1 T2, TX w X t T1 S ∧ RX w X r T2 R ∧ Dj T1 T2 ∧ Kp w X ∧ Bt S R q
/-- the turn at S', the document's beside S0; a block. -/
def Pm (w X : World) (t r : Nat) (S0 S' : TS) (q H : Nat) (cs : Array Value) (y : TypeId) : Prop := ∃ R T1 T2, TX w X t T1 S' ∧ RX w X r T2 R ∧ Dj T1 T2 ∧ Kp w X ∧ Bt S0 R q ∧ H ∉ T1 ∧ H ∉ T2 ∧ X.heap[H]? = some (.cells cs y (0, 0))
section
variable {w X X' : World} {t r : Nat} {S S0 S' : TS} {q H : Nat} {cs : Array Value} {y : TypeId}
theorem Pz.k (h : Pz w X t r S q) : Kp w X := by obtain ⟨_, _, _, _, _, _, h, _⟩ := h; exact h
theorem Pm.at (h : Pm w X t r S0 S' q H cs y) : X.heap[H]? = some (.cells cs y (0, 0)) := by obtain ⟨_, _, _, _, _, _, _, _, _, _, h⟩ := h; exact h
theorem Pm.pz (h : Pm w X t r S S q H cs y) : Pz w X t r S q := by obtain ⟨R, T1, T2, h1, h2, h3, h4, h5, _⟩ := h; exact ⟨R, T1, T2, h1, h2, h3, h4, h5⟩
theorem Pm.more (h : Pm w X t r S S q H cs y) : Pm w X t r S S (q + 1) H cs y := by obtain ⟨R, T1, T2, h1, h2, h3, h4, h5, h6⟩ := h; exact ⟨R, T1, T2, h1, h2, h3, h4, h5.more, h6⟩
theorem Pz.kp (h : Pz w X t r S q) (k : Kp X X') : Pz w X' t r S q := by
  obtain ⟨R, T1, T2, h1, h2, h3, h4, h5⟩ := h
  exact ⟨R, T1, T2, h1.kept k, h2.kept k, h3, h4.trans k, h5⟩
theorem Pm.kp (h : Pm w X t r S0 S' q H cs y) (k : Kp X X') : Pm w X' t r S0 S' q H cs y := by
  obtain ⟨R, T1, T2, h1, h2, h3, h4, h5, h6, h7, h8⟩ := h
  exact ⟨R, T1, T2, h1.kept k, h2.kept k, h3, h4.trans k, h5, h6, h7, (k.block H (heap_lt h8)).trans h8⟩
theorem Pz.box (h : Pz w X t r S q) (cs : Array Value) (y : TypeId) : Pm w (X.alloc (.cells cs y)) t r S S q X.heap.size cs y := by
  have k : Kp X (X.alloc (.cells cs y)) := (Kp.refl X).alloc _
  obtain ⟨R, T1, T2, h1, h2, h3, h4, h5⟩ := h
  refine ⟨R, T1, T2, h1.kept k, h2.kept k, h3, h4.trans k, h5, fun h => ?_, fun h => ?_, new_obj _ _ _⟩
  · have := OL.tx.low h1 _ h; omega
  · have := OL.rx.low h2 _ h; omega
/-- a call on the turn; what else stays. -/
theorem Pm.one {S2 : TS} (h : Pm w X t r S0 S q H cs y) (hc : ∀ T1, TX w X t T1 S → Nz TX w X X' t T1 S2) : Pm w X' t r S0 S2 q H cs y := by
  obtain ⟨R, T1, T2, h1, h2, h3, h4, h5, h6, h7, h8⟩ := h
  obtain ⟨T', a1, a2, a3⟩ := hc T1 h1
  refine ⟨R, T', T2, a1, OL.rx.sp h2 a2 h3.symm, fun t ht ht2 => ?_, Sp.kp h4 a2 (OL.tx.new h1), h5, fun h => ?_, h7, (a2.block H (heap_lt h8) h6).trans h8⟩
  · rcases a3 t ht with h | h
    · exact h3 t h ht2
    · have := OL.rx.low h2 t ht2; omega
  · rcases a3 H h with h | h
    · exact h6 h
    · have := heap_lt h8; omega
/-- a call on the document's. -/
theorem Pm.two {S1 : TS} {q' : Nat} {R' : RS} {T1 T2 : List Nat} {R : RS} (h1 : TX w X t T1 S') (h2 : RX w X r T2 R) (h3 : Dj T1 T2) (h4 : Kp w X) (h6 : H ∉ T1) (h7 : H ∉ T2) (h8 : X.heap[H]? = some (.cells cs y (0, 0))) (b : Bt S1 R' q') (z : Nz RX w X X' r T2 R') : Pm w X' t r S1 S' q' H cs y := by
  obtain ⟨T', a1, a2, a3⟩ := z
  refine ⟨R', T1, T', OL.tx.sp h1 a2 h3, a1, fun t ht ht2 => ?_, Sp.kp h4 a2 (OL.rx.new h2), b, h6, fun h => ?_, (a2.block H (heap_lt h8) h7).trans h8⟩
  · rcases a3 t ht2 with h | h
    · exact h3 t ht h
    · have := OL.tx.low h1 t ht; omega
  · rcases a3 H h with h | h
    · exact h7 h
    · have := heap_lt h8; omega
theorem Pm.touch (h : Pm w X t r S S q H cs y) (k : Int) : Calls Try.prog 11 #[.pointer (some ⟨t, 0, none⟩), .int .i64 k] X fun e X' => e = .returned (.bool (inT S k)) ∧ Pm w X' t r S (toS S k) q H cs y := by
  have h0 := h
  obtain ⟨R, T1, T2, h1, _, _, _, h5, _⟩ := h0
  refine (touch_any h1 h5.g k).mono ?_
  rintro e X' ⟨rfl, z⟩
  exact ⟨rfl, h.one (fun T q => by rw [← h1.same q]; exact z)⟩
theorem Pm.pin (h : Pm w X t r S S q H cs y) (hq : q < 1000) (k : Int) (on : Bool) : Calls Try.prog 13 #[.pointer (some ⟨t, 0, none⟩), .int .i64 k, .bool on] X fun e X' => e = .returned (.bool (inT S k)) ∧ Pm w X' t r S (pnS S k on) q H cs y := by
  have h0 := h
  obtain ⟨R, T1, T2, h1, _, _, _, h5, _⟩ := h0
  refine (pin_any h1 h5.g (Nat.lt_of_le_of_lt h5.n hq) k on).mono ?_
  rintro e X' ⟨rfl, z⟩
  exact ⟨rfl, h.one (fun T q => by rw [← h1.same q]; exact z)⟩
theorem Pm.drop (h : Pm w X t r S S q H cs y) (k : Int) : Calls Try.prog 12 #[.pointer (some ⟨t, 0, none⟩), .int .i64 k] X fun e X' => e = .returned (.bool (inT S k)) ∧ Pm w X' t r S (drS S k) q H cs y := by
  have h0 := h
  obtain ⟨R, T1, T2, h1, _, _, _, h5, _⟩ := h0
  refine (drop_any h1 h5.g k).mono ?_
  rintro e X' ⟨rfl, z⟩
  exact ⟨rfl, h.one (fun T q => by rw [← h1.same q]; exact z)⟩
theorem Pm.add (h : Pm w X t r S S q H cs y) (k : Int) : Calls Try.prog 10 #[.pointer (some ⟨t, 0, none⟩), .int .i64 k] X fun e X' => e = .returned (.int .i64 (adE S k)) ∧ Pm w X' t r S (adS S k) q H cs y := by
  have h0 := h
  obtain ⟨R, T1, T2, h1, _, _, _, h5, _⟩ := h0
  refine (add_any h1 h5.g k).mono ?_
  rintro e X' ⟨rfl, z⟩
  exact ⟨rfl, h.one (fun T q => by rw [← h1.same q]; exact z)⟩
theorem Pm.rtouch (h : Pm w X t r S S' q H cs y) (hq : q < 1000) (k : Int) : Calls Try.prog 16 #[.pointer (some ⟨r, 0, none⟩), .int .i64 k] X fun e X' => e = .returned (.bool (inT S k)) ∧ Pm w X' t r (toS S k) S' (q + 1) H cs y := by
  obtain ⟨R, T1, T2, h1, h2, h3, h4, h5, h6, h7, h8⟩ := h
  refine (rtouch_any h2 h5.r h5.g h5.c0 (by have := h5.c; omega) k).mono ?_
  rintro e X' ⟨rfl, R', z1, z2, z3, z4⟩
  exact ⟨rfl, Pm.two h1 h2 h3 h4 h6 h7 h8 (h5.touch k z1 z2 z3) z4⟩
theorem Pm.rpin (h : Pm w X t r S S' q H cs y) (hq : q < 1000) (k : Int) (on : Bool) : Calls Try.prog 17 #[.pointer (some ⟨r, 0, none⟩), .int .i64 k, .bool on] X fun e X' => e = .returned (.bool (inT S k)) ∧ Pm w X' t r (pnS S k on) S' (q + 1) H cs y := by
  obtain ⟨R, T1, T2, h1, h2, h3, h4, h5, h6, h7, h8⟩ := h
  refine (rpin_any h2 h5.r h5.g h5.c0 k on).mono ?_
  rintro e X' ⟨rfl, R', z1, z2, z3, z4⟩
  exact ⟨rfl, Pm.two h1 h2 h3 h4 h6 h7 h8 (h5.pin k on z1 z2 z3) z4⟩
theorem Pm.rdrop (h : Pm w X t r S S' q H cs y) (hq : q < 1000) (k : Int) : Calls Try.prog 18 #[.pointer (some ⟨r, 0, none⟩), .int .i64 k] X fun e X' => e = .returned (.bool (inT S k)) ∧ Pm w X' t r (drS S k) S' (q + 1) H cs y := by
  obtain ⟨R, T1, T2, h1, h2, h3, h4, h5, h6, h7, h8⟩ := h
  refine (rdrop_any h2 h5.r h5.g h5.c0 k).mono ?_
  rintro e X' ⟨rfl, R', z1, z2, z3, z4⟩
  exact ⟨rfl, Pm.two h1 h2 h3 h4 h6 h7 h8 (h5.drop k z1 z2 z3) z4⟩
theorem Pm.radd (h : Pm w X t r S S' q H cs y) (hq : q < 1000) {k : Int} (hk : iOk k) : Calls Try.prog 20 #[.pointer (some ⟨r, 0, none⟩), .int .i64 k] X fun e X' => e = .returned (.int .i64 (adE S k)) ∧ Pm w X' t r (adS S k) S' (q + 1) H cs y := by
  obtain ⟨R, T1, T2, h1, h2, h3, h4, h5, h6, h7, h8⟩ := h
  refine (radd_any h2 h5.r h5.g h5.c0 (by have := h5.c; omega) k).mono ?_
  rintro e X' ⟨rfl, R', z1, z2, z3, z4⟩
  exact ⟨rfl, Pm.two h1 h2 h3 h4 h6 h7 h8 (h5.add hk z1 z2 z3) z4⟩
theorem Pm.victim (h : Pm w X t r S S q H cs y) : Calls Try.prog 19 #[.pointer (some ⟨t, 0, none⟩)] X fun e X' => e = .returned (.tuple #[.int .i64 (vcK S), .bool (vcO S).isSome]) ∧ Pm w X' t r S S q H cs y := by
  have h0 := h
  obtain ⟨R, T1, T2, h1, _, _, _, h5, _⟩ := h0
  exact (victim_any h1 h5.g).mono (fun e X' q => ⟨q.1, h.kp q.2⟩)
theorem Pm.same (h : Pm w X t r S S q H cs y) (k : Int) : Calls Try.prog 21 #[.pointer (some ⟨t, 0, none⟩), .pointer (some ⟨r, 0, none⟩), .int .i64 k] X fun e X' => e = .returned (.bool true) ∧ Pm w X' t r S S q H cs y := by
  have h0 := h
  obtain ⟨R, T1, T2, h1, h2, _, _, h5, _⟩ := h0
  exact (same_any h1 h2 h5.g h5.r k).mono (fun e X' q => ⟨q.1, h.kp q.2⟩)
end

end Go.Proofs.Yteiangakgfekgaa
