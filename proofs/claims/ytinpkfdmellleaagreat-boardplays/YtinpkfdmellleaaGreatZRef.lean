/-
  The document's board: its state in memory, and its calls. Conditions: that it lies in memory.
-/
import Derived.Test.YtinpkfdmellleaaGreatZBd
import Derived.Test.YtinpkfdmellleaaGreatZBay
import Derived.Deep.RegionHeld3
import Derived.Deep.CutRange
namespace Go.Proofs.YtinpkfdmellleaaGreat
open Go.RowKit Plain
set_option linter.unusedVariables false

/-- a board. -/
structure YX (w0 w : World) (x b : Nat) (T : List Nat) (K : KS) (sv mv : Value) : Prop where
  hx : x < w.heap.size
  lx : w0.heap.size ≤ x
  nt : x ∉ T
  c0 : w.cell? ⟨x, 0, none⟩ = some (.pointer (some ⟨b, 0, none⟩))
  c1 : w.cell? ⟨x, 1, none⟩ = some (.int .i64 K.l.n)
  c2 : w.cell? ⟨x, 2, none⟩ = some (.int .i64 K.l.s)
  c3 : w.cell? ⟨x, 3, none⟩ = some (.int .i64 K.l.ep)
  c4 : w.cell? ⟨x, 4, none⟩ = some sv
  c5 : w.cell? ⟨x, 5, none⟩ = some mv
  fz : ∀ o, w.frozen? ⟨x, o, none⟩ = false
  bay : Dw w0 w b T K.b
  n1 : Nl w sv K.l.sts
  n2 : Nl w mv K.l.mks
  q1 : ∀ q, sv.ownBlock = some q → q ∉ x :: T ∧ q < w.heap.size
  q2 : ∀ q, mv.ownBlock = some q → q ∉ x :: T ∧ q < w.heap.size
/-- behind a call on its bay. -/
theorem YX.bayX {w0 w w' : World} {x b : Nat} {T T' : List Nat} {K : KS} {sv mv : Value} {B : BS} (h : YX w0 w x b T K sv mv) (o : Dw w0 w' b T' B) (s : Sp T w w') (n : Nw w T T') : YX w0 w' x b T' ⟨B, K.l⟩ sv mv :=
  ⟨Nat.lt_of_lt_of_le h.hx s.size, h.lx, nw_nt n h.hx h.nt, s.held h.c0 h.nt, s.held h.c1 h.nt, s.held h.c2 h.nt, s.held h.c3 h.nt, s.held h.c4 h.nt, s.held h.c5 h.nt, fun o => (s.frozen h.hx h.nt o).trans (h.fz o), o,
    h.n1.sp s (fun q hq hm => (h.q1 q hq).1 (List.mem_cons_of_mem _ hm)), h.n2.sp s (fun q hq hm => (h.q2 q hq).1 (List.mem_cons_of_mem _ hm)),
    fun q hq => ⟨nw_nc n (h.q1 q hq).2 (h.q1 q hq).1, Nat.lt_of_lt_of_le (h.q1 q hq).2 s.size⟩, fun q hq => ⟨nw_nc n (h.q2 q hq).2 (h.q2 q hq).1, Nat.lt_of_lt_of_le (h.q2 q hq).2 s.size⟩⟩
theorem YX.kp {w0 w w' : World} {x b : Nat} {T : List Nat} {K : KS} {sv mv : Value} (h : YX w0 w x b T K sv mv) (k : Kp w w') : YX w0 w' x b T K sv mv :=
  ⟨Nat.lt_of_lt_of_le h.hx k.size, h.lx, h.nt, k.held h.c0, k.held h.c1, k.held h.c2, k.held h.c3, k.held h.c4, k.held h.c5, fun o => ((k.sp []).frozen h.hx (by simp) o).trans (h.fz o), OL.dw.sp h.bay (k.sp []) (fun _ _ h => by cases h), h.n1.kept k, h.n2.kept k,
    fun q hq => ⟨(h.q1 q hq).1, Nat.lt_of_lt_of_le (h.q1 q hq).2 k.size⟩, fun q hq => ⟨(h.q2 q hq).1, Nat.lt_of_lt_of_le (h.q2 q hq).2 k.size⟩⟩
/-- behind a call on something else. -/
theorem YX.sp {w0 w w' : World} {x b : Nat} {T U : List Nat} {K : KS} {sv mv : Value} (h : YX w0 w x b T K sv mv) (k : Sp U w w') (hU : ∀ t, t ∈ x :: T → t ∉ U) (h1 : ∀ q, sv.ownBlock = some q → q ∉ U) (h2 : ∀ q, mv.ownBlock = some q → q ∉ U) : YX w0 w' x b T K sv mv :=
  have hx := hU x List.mem_cons_self
  ⟨Nat.lt_of_lt_of_le h.hx k.size, h.lx, h.nt, k.held h.c0 hx, k.held h.c1 hx, k.held h.c2 hx, k.held h.c3 hx, k.held h.c4 hx, k.held h.c5 hx, fun o => (k.frozen h.hx hx o).trans (h.fz o), OL.dw.sp h.bay k (fun t ht => hU t (List.mem_cons_of_mem _ ht)), h.n1.sp k h1, h.n2.sp k h2,
    fun q hq => ⟨(h.q1 q hq).1, Nat.lt_of_lt_of_le (h.q1 q hq).2 k.size⟩, fun q hq => ⟨(h.q2 q hq).1, Nat.lt_of_lt_of_le (h.q2 q hq).2 k.size⟩⟩

/-- behind a call on it. -/
def Yz (w0 w w' : World) (x b : Nat) (T : List Nat) (K : KS) : Prop := ∃ T' s v, YX w0 w' x b T' K s v ∧ Sp (x :: T) w w' ∧ Nw w T T'
theorem Yz.refl {w0 w : World} {x b : Nat} {T : List Nat} {K : KS} {sv mv : Value} (h : YX w0 w x b T K sv mv) : Yz w0 w w x b T K := ⟨T, sv, mv, h, Sp.refl _ _, Nw.refl _ _⟩
theorem Yz.kp {w0 w w' w'' : World} {x b : Nat} {T : List Nat} {K : KS} (h : Yz w0 w w' x b T K) (k : Kp w' w'') : Yz w0 w w'' x b T K := by
  obtain ⟨T', s, v, h1, h2, h3⟩ := h
  exact ⟨T', s, v, h1.kp k, h2.trans (k.sp _), h3⟩
theorem Yz.from {w0 w w' w'' : World} {x b : Nat} {T : List Nat} {K : KS} (k : Kp w w') (h : Yz w0 w' w'' x b T K) : Yz w0 w w'' x b T K := by
  obtain ⟨T', s, v, h1, h2, h3⟩ := h
  exact ⟨T', s, v, h1, (k.sp _).trans h2, fun t ht => (h3 t ht).imp id (fun h => Nat.le_trans k.size h)⟩
theorem Yz.trans {w0 w w' w'' : World} {x b : Nat} {T : List Nat} {K K' : KS} (h : Yz w0 w w' x b T K) (k : ∀ T' s v, YX w0 w' x b T' K s v → Yz w0 w' w'' x b T' K') : Yz w0 w w'' x b T K' := by
  obtain ⟨T', s, v, h1, h2, h3⟩ := h
  obtain ⟨T2, s2, v2, g1, g2, g3⟩ := k T' s v h1
  exact ⟨T2, s2, v2, g1, h2.then g2 (nw_cons h3), h3.trans g3 h2.size⟩
theorem Yz.below {w0 w w' : World} {x b : Nat} {T : List Nat} {K K0 : KS} {sv mv : Value} (h : Yz w0 w w' x b T K) (h0 : YX w0 w x b T K0 sv mv) (k : Kp w0 w) : Kp w0 w' := by
  obtain ⟨T', s, v, h1, h2, h3⟩ := h
  exact Sp.kp k h2 (fun t ht => by
    rcases List.mem_cons.1 ht with e | e
    · rw [e]; exact h0.lx
    · exact OL.dw.new h0.bay t e)
/-- behind a call on it, with where its lists lie. -/
def Yl (w0 w w' : World) (x b : Nat) (T : List Nat) (K : KS) (A : List Nat) : Prop := ∃ T' s v, YX w0 w' x b T' K s v ∧ Sp (x :: T) w w' ∧ Nw w T T' ∧ Lb A w s v
theorem Yl.yz {w0 w w' : World} {x b : Nat} {T : List Nat} {K : KS} {A : List Nat} (h : Yl w0 w w' x b T K A) : Yz w0 w w' x b T K := by
  obtain ⟨T', s, v, h1, h2, h3, _⟩ := h
  exact ⟨T', s, v, h1, h2, h3⟩
theorem Yl.refl {w0 w : World} {x b : Nat} {T : List Nat} {K : KS} {sv mv : Value} (h : YX w0 w x b T K sv mv) : Yl w0 w w x b T K (lbs sv mv) := ⟨T, sv, mv, h, Sp.refl _ _, Nw.refl _ _, Lb.self _ _ _⟩
/-- its label is another. -/
theorem YX.store {w0 w : World} {x b : Nat} {T : List Nat} {B : BS} {L0 L : LB} {sv mv u1 u2 : Value} (h : YX w0 w x b T ⟨B, L0⟩ sv mv) (m1 : Nl w u1 L.sts) (m2 : Nl w u2 L.mks) (r1 : ∀ q, u1.ownBlock = some q → q ∉ x :: T ∧ q < w.heap.size) (r2 : ∀ q, u2.ownBlock = some q → q ∉ x :: T ∧ q < w.heap.size) : YX w0 (ov1 w x L.n L.s L.ep u1 u2) x b T ⟨B, L⟩ u1 u2 := by
  have s := ov1_sp w x L.n L.s L.ep u1 u2
  have so := fun (v : World) (o o' : Nat) (u : Value) (hh : o' ≠ o) => set_other v x o o' u hh
  have d1 : (w.setCell ⟨x, 1, none⟩ (.int .i64 L.n)).cell? ⟨x, 1, none⟩ = some (.int .i64 L.n) := set_same _ h.c1
  have fzz : ∀ (v : World) (o o' : Nat) (u : Value), (v.setCell ⟨x, o, none⟩ u).frozen? ⟨x, o', none⟩ = v.frozen? ⟨x, o', none⟩ := fun v o o' u => by simp
  refine ⟨Nat.lt_of_lt_of_le h.hx s.size, h.lx, h.nt, ?_, ?_, ?_, ?_, ?_, ?_, fun o => ?_, OL.dw.sp h.bay s (fun t ht hm => h.nt (by rw [← List.mem_singleton.1 hm]; exact ht)), m1.sp s (fun q hq hm => (r1 q hq).1 (by rw [List.mem_singleton.1 hm]; exact List.mem_cons_self)), m2.sp s (fun q hq hm => (r2 q hq).1 (by rw [List.mem_singleton.1 hm]; exact List.mem_cons_self)), fun q hq => ⟨(r1 q hq).1, Nat.lt_of_lt_of_le (r1 q hq).2 s.size⟩, fun q hq => ⟨(r2 q hq).1, Nat.lt_of_lt_of_le (r2 q hq).2 s.size⟩⟩
  · unfold ov1; rw [so _ _ _ _ (by omega), so _ _ _ _ (by omega), so _ _ _ _ (by omega), so _ _ _ _ (by omega), so _ _ _ _ (by omega)]; exact h.c0
  · unfold ov1; rw [so _ _ _ _ (by omega), so _ _ _ _ (by omega), so _ _ _ _ (by omega), so _ _ _ _ (by omega)]; exact set_same _ h.c1
  · unfold ov1; rw [so _ _ _ _ (by omega), so _ _ _ _ (by omega), so _ _ _ _ (by omega)]; exact set_same _ ((so _ _ _ _ (by omega)).trans h.c2)
  · unfold ov1; rw [so _ _ _ _ (by omega), so _ _ _ _ (by omega)]; exact set_same _ ((so _ _ _ _ (by omega)).trans ((so _ _ _ _ (by omega)).trans h.c3))
  · unfold ov1; rw [so _ _ _ _ (by omega)]; exact set_same _ ((so _ _ _ _ (by omega)).trans ((so _ _ _ _ (by omega)).trans ((so _ _ _ _ (by omega)).trans h.c4)))
  · unfold ov1; exact set_same _ ((so _ _ _ _ (by omega)).trans ((so _ _ _ _ (by omega)).trans ((so _ _ _ _ (by omega)).trans ((so _ _ _ _ (by omega)).trans h.c5))))
  · unfold ov1; rw [fzz, fzz, fzz, fzz, fzz]; exact h.fz o

/-- two lists of the call's own, apart. -/
def Tv (w : World) (base : Nat) (u1 u2 : Value) (l m : List Int) : Prop := Oi 3 w base u1 l ∧ Oi 3 w base u2 m ∧ Apt u1 u2
theorem Tv.kp {w w' : World} {base : Nat} {u1 u2 : Value} {l m : List Int} (h : Tv w base u1 u2 l m) (k : Kp w w') : Tv w' base u1 u2 l m := ⟨h.1.kept k, h.2.1.kept k, h.2.2⟩
theorem Tv.sp {w w' : World} {base : Nat} {u1 u2 : Value} {l m : List Int} {T : List Nat} (h : Tv w base u1 u2 l m) (k : Sp T w w') (hT : ∀ t, t ∈ T → t < base) : Tv w' base u1 u2 l m :=
  ⟨k.own h.1 (fun g hg ht => by have := (World.ownsRow.lt h.1 g hg).1; have := hT g ht; omega), k.own h.2.1 (fun g hg ht => by have := (World.ownsRow.lt h.2.1 g hg).1; have := hT g ht; omega), h.2.2⟩
theorem Tv.mono {w : World} {base base' : Nat} {u1 u2 : Value} {l m : List Int} (h : Tv w base u1 u2 l m) (hb : base' ≤ base) : Tv w base' u1 u2 l m := ⟨h.1.mono hb, h.2.1.mono hb, h.2.2⟩
theorem Tv.n1 {w : World} {base : Nat} {u1 u2 : Value} {l m : List Int} (h : Tv w base u1 u2 l m) : Nl w u1 l := h.1.nums
theorem Tv.n2 {w : World} {base : Nat} {u1 u2 : Value} {l m : List Int} (h : Tv w base u1 u2 l m) : Nl w u2 m := h.2.1.nums
theorem Tv.lo1 {w : World} {base : Nat} {u1 u2 : Value} {l m : List Int} (h : Tv w base u1 u2 l m) : ∀ q, u1.ownBlock = some q → base ≤ q ∧ q < w.heap.size := h.1.low
theorem Tv.lo2 {w : World} {base : Nat} {u1 u2 : Value} {l m : List Int} (h : Tv w base u1 u2 l m) : ∀ q, u2.ownBlock = some q → base ≤ q ∧ q < w.heap.size := h.2.1.low
theorem Tv.put {w : World} {base g1 g2 n1 n2 c1 c2 : Nat} {l m : List Int} (h : Tv w base (.slice (some ⟨g1, 0, none⟩) n1 c1) (.slice (some ⟨g2, 0, none⟩) n2 c2) l m) (j : Nat) (a b : Int) : Tv ((w.setCell ⟨g1, j, none⟩ (.int .i64 a)).setCell ⟨g2, j, none⟩ (.int .i64 b)) base (.slice (some ⟨g1, 0, none⟩) n1 c1) (.slice (some ⟨g2, 0, none⟩) n2 c2) (l.set j a) (m.set j b) :=
  ⟨(h.1.put j a).other (fun e => h.2.2 g1 rfl (by have : g1 = g2 := by injection e
                                                  rw [this]; rfl)) j _, (h.2.1.other (fun e => h.2.2 g1 rfl (by injection e with e; rw [← e]; rfl)) j _).put j b, h.2.2⟩
theorem Tv.shape {w : World} {base : Nat} {u1 u2 : Value} {l m : List Int} (h : Tv w base u1 u2 l m) (h1 : 0 < l.length) (h2 : 0 < m.length) : ∃ g1 c1 g2 c2, u1 = .slice (some ⟨g1, 0, none⟩) l.length c1 ∧ u2 = .slice (some ⟨g2, 0, none⟩) m.length c2 ∧ l.length ≤ c1 ∧ c1 ≤ 9223372036854775807 ∧ m.length ≤ c2 ∧ c2 ≤ 9223372036854775807 ∧ g1 ≠ g2 ∧ (∀ o, w.frozen? ⟨g1, o, none⟩ = false) ∧ (∀ o, w.frozen? ⟨g2, o, none⟩ = false) ∧ (∀ j, j < l.length → w.cell? ⟨g1, j, none⟩ = some (.int .i64 (l.getD j 0))) ∧ (∀ j, j < m.length → w.cell? ⟨g2, j, none⟩ = some (.int .i64 (m.getD j 0))) := by
  obtain ⟨o1, o2, ap⟩ := h
  have f1 := o1.fe
  have f2 := o2.fe
  obtain ⟨a1, c1, rfl, q1, q2, q3⟩ := f1.shape
  obtain ⟨g1, rfl, _, _⟩ := q3 h1
  obtain ⟨a2, c2, rfl, r1, r2, r3⟩ := f2.shape
  obtain ⟨g2, rfl, _, _⟩ := r3 h2
  exact ⟨g1, c1, g2, c2, rfl, rfl, q1, q2, r1, r2, fun e => ap g1 rfl (by rw [e]; rfl), fun o => f1.z o, fun o => f2.z o, fun j hj => f1.at j hj, fun j hj => f2.at j hj⟩


/-! ### its members -/
theorem rx_dead {w0 w : World} {r m cap : Nat} {X F : List Nat} {B : BS} (h : RX w0 w r m cap X F B) (i : Nat) (hi : i < B.ms.length) : w.cell? ⟨X.getD i 0, 2, none⟩ = some (.bool (ddB B i)) := by
  obtain ⟨P, p1, p2, p3⟩ := h.atX i hi
  exact rw_dead p2
theorem rx_secs {w0 w : World} {r m cap : Nat} {X F : List Nat} {B : BS} (h : RX w0 w r m cap X F B) (i : Nat) (hi : i < B.ms.length) : ∃ gs c, w.cell? ⟨X.getD i 0, 0, none⟩ = some (.slice (some ⟨gs, 0, none⟩) (B.ms.getD i noM).las.length c) ∧ (B.ms.getD i noM).las.length ≤ c ∧ c ≤ 9223372036854775807 := by
  obtain ⟨P, p1, ⟨gs, c, wv, rfl, h1, h2⟩, p3⟩ := h.atX i hi
  exact ⟨gs, c, h1.c0, h1.k1, h1.k2⟩
theorem Dw.fine {w0 w : World} {r : Nat} {T : List Nat} {B : BS} (h : Dw w0 w r T B) (i : Nat) (hi : i < B.ms.length) : Fine (B.ms.getD i noM) := by
  obtain ⟨m, cap, X, F, rfl, h1⟩ := h
  obtain ⟨P, p1, ⟨gs, c, wv, rfl, h1, h2⟩, p3⟩ := h1.atX i hi
  exact h1.fine

set_option maxRecDepth 100000 in
set_option maxHeartbeats 4000000 in
theorem rfits_any {w0 w : World} {r : Nat} {T : List Nat} {B : BS} (h : Dw w0 w r T B) (n s : Int) (hg : gg n s = true) : Calls Tryz.prog 61 #[.pointer (some ⟨r, 0, none⟩), gV n s] w fun e w' => e = .returned (.bool (ftB B n s)) ∧ Kp w w' := by
  have hgd := h.gd
  obtain ⟨m, cap, X, F, rfl, h1⟩ := h
  obtain ⟨g1, g2, g3, g4⟩ := (gg_iff n s).1 hg
  have kA : Kp w (w.alloc (.cells #[.int .i64 n, .int .i64 s] 52)) := (Kp.refl w).alloc _
  have b0 : (w.alloc (.cells #[.int .i64 n, .int .i64 s] 52)).cell? ⟨w.heap.size, 0, none⟩ = some (.int .i64 n) := by rw [World.cell?_alloc_at _ _ _ _ rfl]; rfl
  have b1 : (w.alloc (.cells #[.int .i64 n, .int .i64 s] 52)).cell? ⟨w.heap.size, 1, none⟩ = some (.int .i64 s) := by rw [World.cell?_alloc_at _ _ _ _ rfl]; rfl
  obtain ⟨W, hW⟩ : ∃ W, W = w.alloc (.cells #[.int .i64 n, .int .i64 s] 52) := ⟨_, rfl⟩
  have HW := hid hW
  rw [← hW] at kA b0 b1
  have X1 := h1.kp kA
  have c0 := X1.c0
  have hb1 := hgd.n1
  have hb2 := hgd.n2
  have ar := X1.ar 0 (by omega)
  obtain ⟨gs, c, d0, d1, d2⟩ := rx_secs X1 0 (by omega)
  obtain ⟨x0, hx0⟩ : ∃ x, x = X.getD 0 0 := ⟨_, rfl⟩
  rw [← hx0] at ar d0
  obtain ⟨Z, hZ⟩ : ∃ Z, Z = (B.ms.getD 0 noM).las.length := ⟨_, rfl⟩
  have HZ := hid hZ
  rw [← hZ] at d0 d1
  obtain ⟨N, hN⟩ : ∃ N, N = B.ms.length := ⟨_, rfl⟩
  have HN := hid hN
  rw [← hN] at c0 hb1 hb2
  have k1 := h1.k1
  have k2 := h1.k2
  rw [← hN] at k1
  have HE : Hid (ftB B n s = decide ((N : Int) = n ∧ 100 + s ≤ (Z : Int))) := by rw [hN, hZ]; rfl
  rw [HE.out]
  have KA := hid kA
  clear hgd h1 hW X1 hx0 hZ hN kA hg
  unfold gV
  by_cases hne : (N : Int) = n
  · by_cases hzz : 100 + s ≤ (Z : Int)
    · rw [decide_eq_true ⟨hne, hzz⟩]
      subst hne
      go_enter Tryz.func61, Tryz.ntmps61
      go_upto_region 1 with fail
      rw [← HW.out]
      clear HW
      go_region
      go_wp2
      go_ret
      exact ⟨rfl, KA.out.drew⟩
    · rw [decide_eq_false (fun h => hzz h.2)]
      subst hne
      go_enter Tryz.func61, Tryz.ntmps61
      go_upto_region 1 with fail
      rw [← HW.out]
      clear HW
      go_region
      go_wp2
      go_ret
      exact ⟨rfl, KA.out.drew⟩
  · rw [decide_eq_false (fun h => hne h.1)]
    have hnb : ((N : Int) == n) = false := by simpa using hne
    go_enter Tryz.func61, Tryz.ntmps61
    go_upto_region 1 with fail
    rw [← HW.out]
    clear HW
    go_region
    go_wp2
    go_ret
    exact ⟨rfl, KA.out.drew⟩

end Go.Proofs.YtinpkfdmellleaaGreat

namespace Go.Proofs.YtinpkfdmellleaaGreat
open Go.RowKit Plain
set_option linter.unusedVariables false

/-- the first k of a list, as values. -/
def vK (l : List Int) (k : Nat) : List Value := (l.take k).map (Value.int .i64)
theorem vK_len (l : List Int) (k : Nat) (h : k ≤ l.length) : (vK l k).length = k := by unfold vK; simp; omega
theorem vK_more (l : List Int) (k : Nat) (h : k < l.length) : vK l (k + 1) = vK l k ++ [.int .i64 (l.getD k 0)] := by
  unfold vK
  have e : l.take (k + 1) = l.take k ++ [l.getD k 0] := by
    rw [List.take_add_one, List.getElem?_eq_getElem h, List.getD_eq_getElem?_getD, List.getElem?_eq_getElem h]
    rfl
  rw [e, List.map_append]
  rfl
theorem vK_all (l : List Int) : vK l l.length = l.map (Value.int .i64) := by unfold vK; rw [List.take_length]
theorem OR.oi {w : World} {base : Nat} {e : TypeId} {v : Value} {l : List Int} (h : OR w base e v (l.map (Value.int .i64))) : Oi e w base v l := by
  unfold OR at h
  rw [List.length_map] at h
  exact h
theorem results_rl {fn : Func} {t : Tmp} (h : fn.results = #[.cell t 66]) (tmps : Array Value) (w : World) (b : Nat) {n s ep : Int} {sv mv : Value} (hp : tmps.getD t undef = .pointer (some ⟨b, 0, none⟩)) (h0 : Lc w b n s ep sv mv) :
    (results fn tmps).run Tryz.prog w = .ok (lV n s ep sv mv) w := by
  have hp' : tmps[t]?.getD undef = .pointer (some ⟨b, 0, none⟩) := by simpa using hp
  simp [results, h, hp', asAddr, h0.rload]
set_option maxRecDepth 100000 in
set_option maxHeartbeats 4000000 in
theorem copied_any (n s ep : Int) (l m : List Int) (sv mv : Value) (w : World) (h1 : Nl w sv l) (h2 : Nl w mv m) (hl : l.length ≤ 1000) (hm : m.length ≤ 1000) : Calls Tryz.prog 71 #[lV n s ep sv mv] w fun e w' => ∃ u1 u2, e = .returned (lV n s ep u1 u2) ∧ Tv w' w.heap.size u1 u2 l m ∧ Kp w w' := by
  obtain ⟨a1, g1, o1, p1, rfl, A1⟩ := h1
  obtain ⟨a2, g2, o2, p2, rfl, A2⟩ := h2
  obtain ⟨N, hN⟩ : ∃ N, N = l.length := ⟨_, rfl⟩
  obtain ⟨M, hM⟩ : ∃ N, N = m.length := ⟨_, rfl⟩
  have HN := hid hN
  have HM := hid hM
  have H1 := hid A1
  have H2 := hid A2
  have le1 := A1.le
  have mx1 := A1.mx
  have le2 := A2.le
  have mx2 := A2.mx
  rw [← hN] at hl le1 ⊢
  rw [← hM] at hm le2 ⊢
  clear hN hM A1 A2
  unfold lV
  have kA : Kp w ((w.alloc (.cells #[.int .i64 n, .int .i64 s, .int .i64 ep, .slice a1 N p1, .slice a2 M p2] 66)).alloc (.cells #[.int .i64 0, .int .i64 0, .int .i64 0, .slice none 0 0, .slice none 0 0] 66)) := ((Kp.refl w).alloc _).alloc _
  have LA : Lc ((w.alloc (.cells #[.int .i64 n, .int .i64 s, .int .i64 ep, .slice a1 N p1, .slice a2 M p2] 66)).alloc (.cells #[.int .i64 0, .int .i64 0, .int .i64 0, .slice none 0 0, .slice none 0 0] 66)) w.heap.size n s ep (.slice a1 N p1) (.slice a2 M p2) := (Lc.new w _ _ _ _ _ _).kept ((Kp.refl _).alloc _)
  have LB1 : Lc ((w.alloc (.cells #[.int .i64 n, .int .i64 s, .int .i64 ep, .slice a1 N p1, .slice a2 M p2] 66)).alloc (.cells #[.int .i64 0, .int .i64 0, .int .i64 0, .slice none 0 0, .slice none 0 0] 66)) (w.heap.size + 1) 0 0 0 (.slice none 0 0) (.slice none 0 0) := by
    have := Lc.new (w.alloc (.cells #[.int .i64 n, .int .i64 s, .int .i64 ep, .slice a1 N p1, .slice a2 M p2] 66)) 0 0 0 (.slice none 0 0) (.slice none 0 0) 66
    rw [show (w.alloc (.cells #[.int .i64 n, .int .i64 s, .int .i64 ep, .slice a1 N p1, .slice a2 M p2] 66)).heap.size = w.heap.size + 1 by simp] at this
    exact this
  obtain ⟨W, hW⟩ : ∃ W, W = (w.alloc (.cells #[.int .i64 n, .int .i64 s, .int .i64 ep, .slice a1 N p1, .slice a2 M p2] 66)).alloc (.cells #[.int .i64 0, .int .i64 0, .int .i64 0, .slice none 0 0, .slice none 0 0] 66) := ⟨_, rfl⟩
  have HW := hid hW
  have hWs : Hid (W.heap.size = w.heap.size + 2) := by show _ = _; rw [hW]; simp
  have fA : Hid (∀ o, W.frozen? ⟨w.heap.size, o, none⟩ = false) := fun o => by rw [hW]; exact (Below.frozen (p := ⟨w.heap.size, o, none⟩) ((Kp.refl _).alloc _) (by simp)).trans (by simp)
  have fB : Hid (∀ o, W.frozen? ⟨w.heap.size + 1, o, none⟩ = false) := fun o => by rw [hW]; simp
  rw [← hW] at kA LA LB1
  have HLA := hid LA
  have HLB := hid LB1
  have HKA := hid kA
  clear hW kA LB1
  obtain ⟨d0, d1, d2, d3, d4⟩ := LA
  go_enter Tryz.func71, Tryz.ntmps71
  go_upto_region 1 with fail
  rw [← HW.out]
  clear HW
  go_wp2_with fail
  go_loopw [3, 5] (fun v i wr => ∃ k : Nat, k ≤ N ∧ i = .int .i64 k ∧ Hid (OR wr W.heap.size 3 v (vK l k)) ∧ Hid (Kp W wr)) (fun _ i _ => N - (intOf i).toNat)
  case atStart => exact ⟨0, by omega, by go_num, World.ownsRow_nil _ _ _ _, Kp.refl W⟩
  case round =>
    clear d0 d1 d2 d3 d4
    obtain ⟨k, hk, rfl, HO, HK⟩ := hrel
    obtain ⟨d0, d1, d2, d3, d4⟩ := HLA.out.kept HK.out
    by_cases hlt : k < N
    · have ea := H1.out.ha (by rw [← HN.out]; omega)
      have cv := (HKA.out.trans HK.out).held (H1.out.c k (by rw [← HN.out]; exact hlt))
      obtain ⟨y, hy⟩ : ∃ y, y = l.getD k 0 := ⟨_, rfl⟩
      rw [← hy] at cv
      have HY : Hid (vK l (k + 1) = vK l k ++ [.int .i64 y]) := by rw [hy]; exact vK_more l k (by rw [← HN.out]; exact hlt)
      have HLe : Hid ((vK l k).length ≤ 1000) := by show _ ≤ _; rw [vK_len l k (by rw [← HN.out]; omega)]; omega
      have hs1 := HK.out.size
      have hcap : k < p1 := by omega
      subst ea
      clear hy
      go_wp2_with (at_builtin; refine wpList_append_or2 rfl _ _ 61 3 (.int .i64 0) 8 Tryz.underlying61 info_int rfl (by omega) rfl W.heap.size _ _ rfl (HO.out.kp ((Kp.refl wr).alloc (.cells #[.int .i64 y] 3))) (.int .i64 y) rfl _ rfl (by rw [World.cell?_alloc_at _ _ _ _ rfl]; rfl) (by have := HLe.out; omega) (by simp; omega) ?_)
      intro v' w3 ho3 hg3 hv3
      have HO3 : Hid (OR w3 W.heap.size 3 v' (vK l (k + 1))) := by rw [HY.out]; exact ho3
      have HK3 : Hid (Kp W w3) := (HK.out.alloc _).grown hg3 (fun q hq => (World.ownsRow.lt HO.out q hq).1)
      clear ho3 hg3 hv3 HO HK cv d0 d1 d2 d3 d4
      go_wp2
      go_roundw
      case rel => exact ⟨k + 1, by omega, by go_num, HO3, HK3⟩
      case measure => simp [intOf]; omega
    · have ek : k = N := by omega
      rw [ek, HN.out, vK_all] at HO
      clear ek
      have HOi : Hid (Oi 3 wr W.heap.size u3 l) := HO.out.oi
      clear HO
      rename World => V1
      have HKV : Hid (Kp W V1) := HK
      clear HK
      go_wp2_with fail
      go_loopw [4, 6] (fun v i wr => ∃ k : Nat, k ≤ M ∧ i = .int .i64 k ∧ Hid (OR wr V1.heap.size 3 v (vK m k)) ∧ Hid (Kp V1 wr)) (fun _ i _ => M - (intOf i).toNat)
      case atStart => exact ⟨0, by omega, by go_num, World.ownsRow_nil _ _ _ _, Kp.refl V1⟩
      case round =>
        clear d0 d1 d2 d3 d4
        obtain ⟨j, hj, rfl, HO, HK⟩ := hrel
        obtain ⟨d0, d1, d2, d3, d4⟩ := HLA.out.kept (HKV.out.trans HK.out)
        by_cases hlt2 : j < M
        · have ea := H2.out.ha (by rw [← HM.out]; omega)
          have cv := (HKA.out.trans (HKV.out.trans HK.out)).held (H2.out.c j (by rw [← HM.out]; exact hlt2))
          obtain ⟨y, hy⟩ : ∃ y, y = m.getD j 0 := ⟨_, rfl⟩
          rw [← hy] at cv
          have HY : Hid (vK m (j + 1) = vK m j ++ [.int .i64 y]) := by rw [hy]; exact vK_more m j (by rw [← HM.out]; exact hlt2)
          have HLe : Hid ((vK m j).length ≤ 1000) := by show _ ≤ _; rw [vK_len m j (by rw [← HM.out]; omega)]; omega
          have hs1 := HK.out.size
          have hcap : j < p2 := by omega
          subst ea
          clear hy
          go_wp2_with (at_builtin; refine wpList_append_or2 rfl _ _ 61 3 (.int .i64 0) 8 Tryz.underlying61 info_int rfl (by omega) rfl V1.heap.size _ _ rfl (HO.out.kp ((Kp.refl wr).alloc (.cells #[.int .i64 y] 3))) (.int .i64 y) rfl _ rfl (by rw [World.cell?_alloc_at _ _ _ _ rfl]; rfl) (by have := HLe.out; omega) (by simp; omega) ?_)
          intro v' w3 ho3 hg3 hv3
          have HO3 : Hid (OR w3 V1.heap.size 3 v' (vK m (j + 1))) := by rw [HY.out]; exact ho3
          have HK3 : Hid (Kp V1 w3) := (HK.out.alloc _).grown hg3 (fun q hq => (World.ownsRow.lt HO.out q hq).1)
          clear ho3 hg3 hv3 HO HK cv d0 d1 d2 d3 d4
          go_wp2
          go_roundw
          case rel => exact ⟨j + 1, by omega, by go_num, HO3, HK3⟩
          case measure => simp [intOf]; omega
        · have ej : j = M := by omega
          rw [ej, HM.out, vK_all] at HO
          clear ej
          have HOj : Hid (Oi 3 wr V1.heap.size u4 m) := HO.out.oi
          have HOk : Hid (Oi 3 wr W.heap.size u3 l) := HOi.out.kept HK.out
          have HKw : Hid (Kp W wr) := HKV.out.trans HK.out
          obtain ⟨f1, f2, f3, rfl⟩ := HOk.out.shape
          obtain ⟨f4, f5, f6, rfl⟩ := HOj.out.shape
          have HT : Hid (Tv wr W.heap.size (.slice f1 f2 f3) (.slice f4 f5 f6) l m) := ⟨HOk.out, HOj.out.mono HKV.out.size, fun q h1 h2 => by
            have := (HOi.out.low q h1).2
            have := (HOj.out.low q h2).1
            omega⟩
          have hws : w.heap.size + 1 < W.heap.size := by have := hWs.out; omega
          have z1 : ∀ o, wr.frozen? ⟨w.heap.size, o, none⟩ = false := fun o => ((HKw.out.sp []).frozen (by omega) (by simp) o).trans (fA.out o)
          have z2 : ∀ o, wr.frozen? ⟨w.heap.size + 1, o, none⟩ = false := fun o => ((HKw.out.sp []).frozen (by omega) (by simp) o).trans (fB.out o)
          obtain ⟨t0, t1, t2, t3, t4⟩ := HLB.out.kept HKw.out
          clear HO HK HOi HOj HOk HKV
          go_wp2
          have s1 : Sp [w.heap.size] wr ((wr.setCell ⟨w.heap.size, 3, none⟩ (.slice f1 f2 f3)).setCell ⟨w.heap.size, 4, none⟩ (.slice f4 f5 f6)) := ((Sp.refl _ wr).set _ 3 (by simp) _).set _ 4 (by simp) _
          have lB : Lc ((wr.setCell ⟨w.heap.size, 3, none⟩ (.slice f1 f2 f3)).setCell ⟨w.heap.size, 4, none⟩ (.slice f4 f5 f6)) (w.heap.size + 1) 0 0 0 (.slice none 0 0) (.slice none 0 0) := ⟨s1.held t0 (by simp), s1.held t1 (by simp), s1.held t2 (by simp), s1.held t3 (by simp), s1.held t4 (by simp)⟩
          refine bodyPost_ret (results_rl rfl _ _ (w.heap.size + 1) rfl (Lc.over lB)) rfl ?_
          have s2 : Sp [w.heap.size, w.heap.size + 1] wr (over ((wr.setCell ⟨w.heap.size, 3, none⟩ (.slice f1 f2 f3)).setCell ⟨w.heap.size, 4, none⟩ (.slice f4 f5 f6)) (w.heap.size + 1) n s ep (.slice f1 f2 f3) (.slice f4 f5 f6)) := (s1.mono (fun t ht => by simp at ht; simp [ht])).trans ((((((Sp.refl [w.heap.size, w.heap.size + 1] _).set _ 0 (by simp) _).set _ 1 (by simp) _).set _ 2 (by simp) _).set _ 3 (by simp) _).set _ 4 (by simp) _)
          refine ⟨_, _, rfl, (HT.out.sp s2 (fun t ht => ?_)).mono (by omega), Sp.kp (HKA.out.trans HKw.out) s2 (fun t ht => ?_)⟩
          · simp only [List.mem_cons, List.not_mem_nil, or_false] at ht; omega
          · simp only [List.mem_cons, List.not_mem_nil, or_false] at ht; omega

end Go.Proofs.YtinpkfdmellleaaGreat

namespace Go.Proofs.YtinpkfdmellleaaGreat
open Go.RowKit Plain
set_option linter.unusedVariables false

theorem take_nat (l : List Nat) (k : Nat) (h : k < l.length) : l.take (k + 1) = l.take k ++ [l.getD k 0] := by
  rw [List.take_add_one, List.getElem?_eq_getElem h, List.getD_eq_getElem?_getD, List.getElem?_eq_getElem h]
  rfl
theorem Nz.off {O : World → World → Nat → List Nat → BS → Prop} {w0 w w' w'' : World} {b : Nat} {T : List Nat} {B : BS} (k : Kp w w') (h : Nz O w0 w' w'' b T B) : Nz O w0 w w'' b T B := by
  obtain ⟨T', h1, h2, h3⟩ := h
  exact ⟨T', h1, (k.sp _).trans h2, fun t ht => (h3 t ht).imp id (fun h => Nat.le_trans k.size h)⟩
set_option maxRecDepth 100000 in
set_option maxHeartbeats 4000000 in
theorem rpublish_l {w0 w : World} {x b : Nat} {T : List Nat} {K : KS} {sv mv : Value} (h : YX w0 w x b T K sv mv) (hK : Kp w0 w) (M : LB) (u1 u2 : Value) (m1 : Nl w u1 M.sts) (m2 : Nl w u2 M.mks) (r1 : ∀ q, u1.ownBlock = some q → q ∉ x :: T ∧ q < w.heap.size) (r2 : ∀ q, u2.ownBlock = some q → q ∉ x :: T ∧ q < w.heap.size) (he0 : 0 ≤ K.l.ep) (he : K.l.ep < 9007199254740992) (hg : K.b.g + 100 < 1000000) :
    Calls Tryz.prog 72 #[.pointer (some ⟨x, 0, none⟩), lV M.n M.s M.ep u1 u2] w fun e w' => e = .returned (.int .i64 (puE' K M)) ∧ Yl w0 w w' x b T (puK K M) (lbs sv mv ++ lbs u1 u2) ∧ (puE' K M = 0 → ∃ T', YX w0 w' x b T' (puK K M) u1 u2 ∧ Sp (x :: T) w w' ∧ Nw w T T') := by
  have hgd := h.bay.gd
  obtain ⟨B, L⟩ := K
  obtain ⟨n, s, ep, sts, mks⟩ := M
  obtain ⟨a1, n1, cp1, rfl⟩ : ∃ a n c, u1 = .slice a n c := by obtain ⟨a, g, off, cap, rfl, _⟩ := m1; exact ⟨_, _, _, rfl⟩
  obtain ⟨a2, n2, cp2, rfl⟩ : ∃ a n c, u2 = .slice a n c := by obtain ⟨a, g, off, cap, rfl, _⟩ := m2; exact ⟨_, _, _, rfl⟩
  dsimp only at m1 m2 he0 he hg hgd
  have hSe := fun w' (k : Kp w w') => rput_any ⟨n, s, L.ep + 1, sts, mks⟩ (.slice a1 n1 cp1) (.slice a2 n2 cp2) w' (m1.kept k) (m2.kept k)
  have hb2 := hgd.n2
  have hll := lvL_len B.ms 0
  obtain ⟨P, hP⟩ : ∃ P, P = puS ⟨n, s, L.ep + 1, sts, mks⟩ := ⟨_, rfl⟩
  obtain ⟨PE, hPE⟩ : ∃ P, P = puE ⟨n, s, L.ep + 1, sts, mks⟩ := ⟨_, rfl⟩
  obtain ⟨A, hA⟩ : ∃ A, A = (L.ep + 1) % 2 := ⟨_, rfl⟩
  dsimp only at hSe
  rw [← hP, ← hPE] at hSe
  have tm : (L.ep + 1).tmod 2 = A := by rw [hA]; exact Int.tmod_eq_emod_of_nonneg (by omega)
  have hA0 : 0 ≤ A ∧ A < 2 := by omega
  obtain ⟨hA1, hA2⟩ := hA0
  have HR : Hid (pbR ⟨B, L⟩ ⟨n, s, ep, sts, mks⟩ = pbF A P (lvL 0 B.ms) B) := by rw [hP, hA]; rfl
  clear hP hA hPE hgd
  have HH := hid h
  have HK := hid hK
  have HM1 := hid m1
  have HM2 := hid m2
  have HR1 := hid r1
  have HR2 := hid r2
  have c3 := h.c3
  dsimp only at c3
  obtain ⟨l, hl⟩ : ∃ l, l = lvL 0 B.ms := ⟨_, rfl⟩
  rw [← hl] at HR hll
  have HL0 := hid hl
  clear h hK m1 m2 r1 r2 hl
  unfold lV at hSe ⊢
  have LA : Lc (w.alloc (.cells #[.int .i64 n, .int .i64 s, .int .i64 ep, .slice a1 n1 cp1, .slice a2 n2 cp2] 66)) w.heap.size n s ep (.slice a1 n1 cp1) (.slice a2 n2 cp2) := Lc.new w _ _ _ _ _ _
  have c3' := ((Kp.refl w).alloc (.cells #[.int .i64 n, .int .i64 s, .int .i64 ep, .slice a1 n1 cp1, .slice a2 n2 cp2] 66)).held c3
  have hne : ¬ 9007199254740992 ≤ L.ep := by omega
  have LB1 : Hid (Lc (w.alloc (.cells #[.int .i64 n, .int .i64 s, .int .i64 (L.ep + 1), .slice a1 n1 cp1, .slice a2 n2 cp2] 66)) w.heap.size n s (L.ep + 1) (.slice a1 n1 cp1) (.slice a2 n2 cp2)) := Lc.new w _ _ _ _ _ _
  have KB : Hid (Kp w (w.alloc (.cells #[.int .i64 n, .int .i64 s, .int .i64 (L.ep + 1), .slice a1 n1 cp1, .slice a2 n2 cp2] 66))) := (Kp.refl w).alloc _
  obtain ⟨W, hW⟩ : ∃ W, W = w.alloc (.cells #[.int .i64 n, .int .i64 s, .int .i64 (L.ep + 1), .slice a1 n1 cp1, .slice a2 n2 cp2] 66) := ⟨_, rfl⟩
  have HW := hid hW
  rw [← hW] at LB1 KB
  clear hW LA
  go_enter Tryz.func72, Tryz.ntmps72
  go_upto_region 4 with fail
  rw [← HW.out]
  clear HW c3 c3'
  obtain ⟨d0, d1, d2, d3, d4⟩ := LB1.out
  have hS1 := hSe W KB.out
  clear hSe
  go_wp2_with fail
  refine hS1.mono ?_; rintro e v2 ⟨rfl, k2⟩
  have K2 : Hid (Kp w v2) := KB.out.trans k2
  have L2 : Hid (Lc v2 w.heap.size n s (L.ep + 1) (.slice a1 n1 cp1) (.slice a2 n2 cp2)) := LB1.out.kept k2
  have X2 := hid (HH.out.kp K2.out)
  have HT : Hid (∀ t, t ∈ T → t < w.heap.size) := OL.dw.low HH.out.bay
  have HTn : Hid (∀ t, t ∈ T → w0.heap.size ≤ t) := OL.dw.new HH.out.bay
  have hwT : Hid (w.heap.size ∉ T) := fun ht => by have := HT.out _ ht; omega
  have hLv := dw_live X2.out.bay
  have e0 := X2.out.c0
  clear k2 hS1 d0 d1 d2 d3 d4 LB1
  go_wp2_with fail
  refine hLv.mono ?_; rintro e v3 ⟨lv, rfl, hlv, k3⟩
  rw [← HL0.out] at hlv
  have K3 : Hid (Kp w v3) := K2.out.trans k3
  have X3 : Hid (YX w0 v3 x b T ⟨B, L⟩ sv mv) := X2.out.kp k3
  have HK3 : Hid (Kp w0 v3) := HK.out.trans K3.out
  have L3 : Hid (Lc v3 w.heap.size n s (L.ep + 1) (.slice a1 n1 cp1) (.slice a2 n2 cp2)) := L2.out.kept k3
  have M1 : Hid (Nl v3 (.slice a1 n1 cp1) sts) := HM1.out.kept K3.out
  have M2 : Hid (Nl v3 (.slice a2 n2 cp2) mks) := HM2.out.kept K3.out
  have hs3 : Hid (w.heap.size < v3.heap.size) := World.block_lt_of_cell? _ _ L3.out.c0
  obtain ⟨la, lg_, lc, rfl, hq1, hq2, hq3, hq4⟩ := hlv
  obtain ⟨N, hN⟩ : ∃ N, N = l.length := ⟨_, rfl⟩
  have HN := hid hN
  rw [← hN] at hll hq1 hq3 hq4 ⊢
  have HQ : Hid (0 < N → la = some ⟨lg_, 0, none⟩ ∧ lg_ ∉ T ∧ ∀ j, j < N → v3.cell? ⟨lg_, j, none⟩ = some (.int .i64 ((l.getD j 0 : Nat) : Int))) := fun h0 => ⟨(hq3 h0).1, fun ht => by have h1 := HT.out _ ht; have h2 := (hq3 h0).2.1; have h3 := K2.out.size; omega, hq4⟩
  clear hLv e0 HM1 HM2 L2 k3 hq3 hq4 hN
  go_wp2_with fail
  go_loopw [8] (fun j wr => ∃ k : Nat, k ≤ N ∧ j = .int .i64 k ∧ Hid ((pbF A P (l.take k) B).2 = false) ∧ Hid (Nz Dw w0 v3 wr b T (pbF A P (l.take k) B).1)) (fun j _ => N - (intOf j).toNat)
  case atStart => exact ⟨0, by omega, by go_num, rfl, Nz.refl X3.out.bay⟩
  case round =>
    obtain ⟨k, hk, rfl, HF, HZ⟩ := hrel
    have HKr : Hid (Kp w0 wr) := HZ.out.below OL.dw X3.out.bay HK3.out
    by_cases hlt : k < N
    · obtain ⟨ela, hlT, hcl⟩ := HQ.out (by omega)
      subst ela
      have ed : pbF A P (l.take (k + 1)) B = p1 A P (pbF A P (l.take k) B) (l.getD k 0) := by rw [take_nat l k (by rw [← HN.out]; exact hlt), pbF_snoc]
      have hgl := pbF_g A P (l.take k) B
      rw [List.length_take, ← HN.out] at hgl
      obtain ⟨C, hCC⟩ : ∃ C, C = pbF A P (l.take k) B := ⟨_, rfl⟩
      rw [← hCC] at HF HZ ed hgl
      have HCC := hid hCC
      have ED := hid ed
      obtain ⟨i, hi⟩ : ∃ i, i = l.getD k 0 := ⟨_, rfl⟩
      have hci := hcl k hlt
      rw [← hi] at hci ED
      clear hCC ed hi hcl
      obtain ⟨T', hB, hS, hNw⟩ := HZ.out
      have HS : Hid (Sp T v3 wr ∧ Nw v3 T T') := ⟨hS, hNw⟩
      have hW1 : ∀ V, Kp wr V → Calls Tryz.prog 15 #[.pointer (some ⟨b, 0, none⟩), .int .i64 (i : Int), .int .i64 A, .string P] V fun e V' => e = .returned (.int .i64 (opE C.1 i (fun S => wrE S A P))) ∧ Nz Dw w0 wr V' b T' (opS C.1 i (fun S => Go.Proofs.YtinpkfdmellleaaGreat.wr S A P)) := fun V k => (dw_write (OL.dw.sp hB (k.sp []) (fun _ _ h => by cases h)) (HKr.out.trans k) i A P (by omega)).mono fun e V' ⟨he, hn⟩ => ⟨he, hn.off k⟩
      have x0 : wr.cell? ⟨x, 0, none⟩ = some (.pointer (some ⟨b, 0, none⟩)) := hS.held X3.out.c0 X3.out.nt
      have d2 : wr.cell? ⟨w.heap.size, 2, none⟩ = some (.int .i64 (L.ep + 1)) := hS.held L3.out.c2 hwT.out
      have ci : wr.cell? ⟨lg_, k, none⟩ = some (.int .i64 (i : Int)) := hS.held hci hlT
      have HB := hid hB
      have hxT : x ∉ T' := nw_nt hNw X3.out.hx X3.out.nt
      have hwT' : w.heap.size ∉ T' := nw_nt hNw hs3.out hwT.out
      have hlT' : lg_ ∉ T' := nw_nt hNw (World.block_lt_of_cell? _ _ hci) hlT
      have hSS : ∀ V, Kp wr V → V.cell? ⟨x, 0, none⟩ = some (.pointer (some ⟨b, 0, none⟩)) ∧ V.cell? ⟨lg_, k, none⟩ = some (.int .i64 (i : Int)) ∧ V.cell? ⟨w.heap.size, 2, none⟩ = some (.int .i64 (L.ep + 1)) := fun V q => ⟨q.held x0, q.held ci, q.held d2⟩
      have hSZ : ∀ V C', Nz Dw w0 wr V b T' C' → V.cell? ⟨x, 0, none⟩ = some (.pointer (some ⟨b, 0, none⟩)) ∧ V.cell? ⟨lg_, k, none⟩ = some (.int .i64 (i : Int)) ∧ V.cell? ⟨w.heap.size, 2, none⟩ = some (.int .i64 (L.ep + 1)) := fun V C' ⟨_, _, q, _⟩ => ⟨q.held x0 hxT, q.held ci hlT', q.held d2 hwT'⟩
      obtain ⟨E1, hE1⟩ : ∃ E, E = opE C.1 i (fun S => wrE S A P) := ⟨_, rfl⟩
      rw [← hE1] at hW1
      have HE1 := hid hE1
      have hr0 : Kp wr wr.drew := (Kp.refl _).drew
      have hcap : k < lc := by omega
      have hkN : ((k : Int) < (N : Int)) := by omega
      have hk0 : (0 : Int) ≤ (k : Int) := by omega
      clear hB hS hNw hE1
      go_wp2_with fail
      go_region_held3 (fun V => V.cell? ⟨x, 0, none⟩ = some (.pointer (some ⟨b, 0, none⟩)) ∧ V.cell? ⟨lg_, k, none⟩ = some (.int .i64 (i : Int)) ∧ V.cell? ⟨w.heap.size, 2, none⟩ = some (.int .i64 (L.ep + 1))) (first | exact hSS _ (by assumption) | exact hSZ _ _ (by assumption)) (first | (go_at_call 15; refine (hW1 _ (by assumption)).mono ?_; rintro e y2 ⟨rfl, z2⟩))
      have HK2 : Hid (Kp w0 y2) := z2.below OL.dw HB.out HKr.out
      have HSZ := hid hSZ
      obtain ⟨T2, o2, s2, nn2⟩ := z2
      have HZ2 : Hid (Sp T v3 y2 ∧ Nw v3 T T2) := ⟨HS.out.1.then s2 HS.out.2, HS.out.2.trans nn2 HS.out.1.size⟩
      have x2 : y2.cell? ⟨x, 0, none⟩ = some (.pointer (some ⟨b, 0, none⟩)) := s2.held x0 hxT
      have ci2 : y2.cell? ⟨lg_, k, none⟩ = some (.int .i64 (i : Int)) := s2.held ci hlT'
      have HO2 := hid o2
      have q1 : x ∉ T2 := nw_nt nn2 (World.block_lt_of_cell? _ _ x0) hxT
      have q2 : lg_ ∉ T2 := nw_nt nn2 (World.block_lt_of_cell? _ _ ci) hlT'
      clear hSZ hSS hW1 s2 nn2 hr0 x0 ci d2
      by_cases h21 : E1 = 21
      · have e1 : p1 A P C i = (opS C.1 i (fun S => Go.Proofs.YtinpkfdmellleaaGreat.wr S A P), true) := p1_w HF.out (HE1.out.symm.trans h21)
        have HFin : Hid (puE' ⟨B, L⟩ ⟨n, s, ep, sts, mks⟩ = 21 ∧ puK ⟨B, L⟩ ⟨n, s, ep, sts, mks⟩ = ⟨opS C.1 i (fun S => Go.Proofs.YtinpkfdmellleaaGreat.wr S A P), L⟩) := by
          have e2 : pbF A P l B = (opS C.1 i (fun S => Go.Proofs.YtinpkfdmellleaaGreat.wr S A P), true) := by
            conv => lhs; rw [← List.take_append_drop (k + 1) l]
            rw [pbF_stop _ _ _ _ _ (by rw [ED.out, e1]), ED.out, e1]
          unfold puE' puK
          rw [HR.out, e2]
          exact ⟨rfl, rfl⟩
        subst h21
        clear e1 o2
        go_wp2
        go_ret
        refine ⟨by rw [HFin.out.1]; rfl, ⟨T2, sv, mv, ?_, ?_, ?_, (Lb.self w sv mv).mono (Nat.le_refl _) (fun q h => .inl (List.mem_append_left _ h))⟩, fun h => by rw [HFin.out.1] at h; cases h⟩
        · rw [HFin.out.2]
          exact X3.out.bayX HO2.out HZ2.out.1 HZ2.out.2
        · exact ((K3.out.sp (x :: T)).trans (HZ2.out.1.mono (fun t ht => List.mem_cons_of_mem _ ht)))
        · exact fun t ht => (HZ2.out.2 t ht).imp id (fun h => by have := hs3.out; omega)
      · have b1 : (E1 == 21) = false := by simpa using h21
        have hF1 : ∀ V, Kp y2 V → Calls Tryz.prog 64 #[.pointer (some ⟨b, 0, none⟩), .int .i64 (i : Int)] V fun e V' => e = .returned (.int .i64 (opE (opS C.1 i (fun S => Go.Proofs.YtinpkfdmellleaaGreat.wr S A P)) i flE)) ∧ Nz Dw w0 y2 V' b T2 (opS (opS C.1 i (fun S => Go.Proofs.YtinpkfdmellleaaGreat.wr S A P)) i fl) := fun V k => (dw_flush (OL.dw.sp o2 (k.sp []) (fun _ _ h => by cases h)) (HK2.out.trans k) i (by rw [(opS_len _ _ _).2]; omega)).mono fun e V' ⟨he, hn⟩ => ⟨he, hn.off k⟩
        have e1 := p1_f (a := A) (s := P) (i := i) HF.out (fun h => h21 (HE1.out.trans h))
        obtain ⟨E2, hE2⟩ : ∃ E, E = opE (opS C.1 i (fun S => Go.Proofs.YtinpkfdmellleaaGreat.wr S A P)) i flE := ⟨_, rfl⟩
        rw [← hE2] at hF1 e1
        have H1 := hid e1
        have hSS : ∀ V, Kp y2 V → V.cell? ⟨x, 0, none⟩ = some (.pointer (some ⟨b, 0, none⟩)) ∧ V.cell? ⟨lg_, k, none⟩ = some (.int .i64 (i : Int)) := fun V q => ⟨q.held x2, q.held ci2⟩
        have hSZ : ∀ V C', Nz Dw w0 y2 V b T2 C' → V.cell? ⟨x, 0, none⟩ = some (.pointer (some ⟨b, 0, none⟩)) ∧ V.cell? ⟨lg_, k, none⟩ = some (.int .i64 (i : Int)) := fun V C' ⟨_, _, q, _⟩ => ⟨q.held x2 q1, q.held ci2 q2⟩
        have hr0 : Kp y2 y2.drew := (Kp.refl _).drew
        clear e1 o2 hE2
        go_wp2_with fail
        go_region_held3 (fun V => V.cell? ⟨x, 0, none⟩ = some (.pointer (some ⟨b, 0, none⟩)) ∧ V.cell? ⟨lg_, k, none⟩ = some (.int .i64 (i : Int))) (first | exact hSS _ (by assumption) | exact hSZ _ _ (by assumption)) (first | (go_at_call 64; refine (hF1 _ (by assumption)).mono ?_; rintro e y3 ⟨rfl, z3⟩))
        obtain ⟨T3, o3, s3, nn3⟩ := z3
        have HZ3 : Hid (Sp T v3 y3 ∧ Nw v3 T T3) := ⟨HZ2.out.1.then s3 HZ2.out.2, HZ2.out.2.trans nn3 HZ2.out.1.size⟩
        have HO3 := hid o3
        clear s3 nn3 o3 hF1 x2 ci2 hSS hSZ hr0
        by_cases h22 : E2 = 21
        · have HFin : Hid (puE' ⟨B, L⟩ ⟨n, s, ep, sts, mks⟩ = 21 ∧ puK ⟨B, L⟩ ⟨n, s, ep, sts, mks⟩ = ⟨opS (opS C.1 i (fun S => Go.Proofs.YtinpkfdmellleaaGreat.wr S A P)) i fl, L⟩) := by
            have e2 : pbF A P l B = (opS (opS C.1 i (fun S => Go.Proofs.YtinpkfdmellleaaGreat.wr S A P)) i fl, true) := by
              conv => lhs; rw [← List.take_append_drop (k + 1) l]
              rw [pbF_stop _ _ _ _ _ (by rw [ED.out, H1.out, h22]; rfl), ED.out, H1.out, h22]; rfl
            unfold puE' puK
            rw [HR.out, e2]
            exact ⟨rfl, rfl⟩
          subst h22
          go_wp2
          go_ret
          refine ⟨by rw [HFin.out.1]; rfl, ⟨T3, sv, mv, ?_, ?_, ?_, (Lb.self w sv mv).mono (Nat.le_refl _) (fun q h => .inl (List.mem_append_left _ h))⟩, fun h => by rw [HFin.out.1] at h; cases h⟩
          · rw [HFin.out.2]
            exact X3.out.bayX HO3.out HZ3.out.1 HZ3.out.2
          · exact ((K3.out.sp (x :: T)).trans (HZ3.out.1.mono (fun t ht => List.mem_cons_of_mem _ ht)))
          · exact fun t ht => (HZ3.out.2 t ht).imp id (fun h => by have := hs3.out; omega)
        · have e3 : p1 A P C i = (opS (opS C.1 i (fun S => Go.Proofs.YtinpkfdmellleaaGreat.wr S A P)) i fl, false) := by rw [H1.out, decide_eq_false h22]
          have HF1 : Hid ((pbF A P (l.take (k + 1)) B).2 = false) := by
            show _ = _
            rw [ED.out, e3]
          have HZ1 : Hid (Nz Dw w0 v3 y3 b T (pbF A P (l.take (k + 1)) B).1) := by
            show Nz _ _ _ _ _ _ _
            rw [ED.out, e3]
            exact ⟨T3, HO3.out, HZ3.out⟩
          have b2 : (E2 == 21) = false := by simpa using h22
          clear e3 HZ3 HO3
          go_wp2
          go_roundw
          case rel => exact ⟨k + 1, by omega, by go_num, HF1, HZ1⟩
          case measure => simp [intOf]; omega
    · have ek : k = N := by omega
      rw [ek, List.take_of_length_le (by rw [← HN.out]; omega)] at HF HZ
      clear ek
      obtain ⟨T', hB, hS, hNw⟩ := HZ.out
      have HFin : Hid (puE' ⟨B, L⟩ ⟨n, s, ep, sts, mks⟩ = 0 ∧ puK ⟨B, L⟩ ⟨n, s, ep, sts, mks⟩ = ⟨(pbF A P l B).1, ⟨n, s, L.ep + 1, sts, mks⟩⟩) := by
        unfold puE' puK
        rw [HR.out, HF.out]
        exact ⟨rfl, rfl⟩
      have XF := X3.out.bayX hB hS hNw
      have rr : ∀ q, q ∉ x :: T ∧ q < w.heap.size → q ∉ x :: T' ∧ q < wr.heap.size := fun q h => ⟨nw_nc hNw (by have := hs3.out; omega) h.1, by have := hs3.out; have := hS.size; omega⟩
      have XS := hid (XF.store (L := ⟨n, s, L.ep + 1, sts, mks⟩) (u1 := .slice a1 n1 cp1) (u2 := .slice a2 n2 cp2) (M1.out.sp hS (fun q hq hm => (HR1.out q hq).1 (List.mem_cons_of_mem _ hm))) (M2.out.sp hS (fun q hq hm => (HR2.out q hq).1 (List.mem_cons_of_mem _ hm))) (fun q hq => rr q (HR1.out q hq)) (fun q hq => rr q (HR2.out q hq)))
      have HS : Hid (Sp T v3 wr ∧ Nw v3 T T') := ⟨hS, hNw⟩
      obtain ⟨d0, d1, d2, d3, d4⟩ : Lc wr w.heap.size n s (L.ep + 1) (.slice a1 n1 cp1) (.slice a2 n2 cp2) := ⟨hS.held L3.out.c0 hwT.out, hS.held L3.out.c1 hwT.out, hS.held L3.out.c2 hwT.out, hS.held L3.out.c3 hwT.out, hS.held L3.out.c4 hwT.out⟩
      have fz := XF.fz
      obtain ⟨x1, x2, x3, x4, x5⟩ : wr.cell? ⟨x, 1, none⟩ = some (.int .i64 L.n) ∧ wr.cell? ⟨x, 2, none⟩ = some (.int .i64 L.s) ∧ wr.cell? ⟨x, 3, none⟩ = some (.int .i64 L.ep) ∧ wr.cell? ⟨x, 4, none⟩ = some sv ∧ wr.cell? ⟨x, 5, none⟩ = some mv := ⟨XF.c1, XF.c2, XF.c3, XF.c4, XF.c5⟩
      clear hB hS hNw XF rr HZ
      go_wp2
      go_ret
      have f1 : YX w0 (ov1 wr x n s (L.ep + 1) (.slice a1 n1 cp1) (.slice a2 n2 cp2)) x b T' (puK ⟨B, L⟩ ⟨n, s, ep, sts, mks⟩) (.slice a1 n1 cp1) (.slice a2 n2 cp2) := by
        rw [HFin.out.2]
        exact XS.out
      have f2 : Sp (x :: T) w (ov1 wr x n s (L.ep + 1) (.slice a1 n1 cp1) (.slice a2 n2 cp2)) := ((K3.out.sp (x :: T)).trans (HS.out.1.mono (fun t ht => List.mem_cons_of_mem _ ht))).trans ((ov1_sp wr x _ _ _ _ _).mono (fun t ht => by rw [List.mem_singleton.1 ht]; exact List.mem_cons_self))
      have f3 : Nw w T T' := fun t ht => (HS.out.2 t ht).imp id (fun h => by have := hs3.out; omega)
      exact ⟨by rw [HFin.out.1]; rfl, ⟨T', _, _, f1, f2, f3, (Lb.self w _ _).mono (Nat.le_refl _) (fun q h => .inl (List.mem_append_right _ h))⟩, fun _ => ⟨T', f1, f2, f3⟩⟩

theorem rpublish_any {w0 w : World} {x b : Nat} {T : List Nat} {K : KS} {sv mv : Value} (h : YX w0 w x b T K sv mv) (hK : Kp w0 w) (M : LB) (u1 u2 : Value) (m1 : Nl w u1 M.sts) (m2 : Nl w u2 M.mks) (r1 : ∀ q, u1.ownBlock = some q → q ∉ x :: T ∧ q < w.heap.size) (r2 : ∀ q, u2.ownBlock = some q → q ∉ x :: T ∧ q < w.heap.size) (he0 : 0 ≤ K.l.ep) (he : K.l.ep < 9007199254740992) (hg : K.b.g + 100 < 1000000) :
    Calls Tryz.prog 72 #[.pointer (some ⟨x, 0, none⟩), lV M.n M.s M.ep u1 u2] w fun e w' => e = .returned (.int .i64 (puE' K M)) ∧ Yz w0 w w' x b T (puK K M) :=
  (rpublish_l h hK M u1 u2 m1 m2 r1 r2 he0 he hg).mono fun e w' ⟨h1, h2, _⟩ => ⟨h1, h2.yz⟩

end Go.Proofs.YtinpkfdmellleaaGreat

namespace Go.Proofs.YtinpkfdmellleaaGreat
open Go.RowKit Plain
set_option linter.unusedVariables false

/-- while the labels are read: the bay, and the texts that were read, in a row of the call's own apart from it. -/
def RB (w0 V w : World) (b : Nat) (T : List Nat) (u : Value) (r : RS) : Prop := ∃ T', Dw w0 w b T' r.1 ∧ Sp T V w ∧ Nw V T T' ∧ OR w V.heap.size 9 u (r.2.1.map Value.string) ∧ (∀ q, u.ownBlock = some q → q ∉ T') ∧ (∀ t ∈ r.2.1, t.size = 64) ∧ r.1.ms.length ≤ 32
theorem RB.kp {w0 V w w' : World} {b : Nat} {T : List Nat} {u : Value} {r : RS} (h : RB w0 V w b T u r) (k : Kp w w') : RB w0 V w' b T u r := by
  obtain ⟨T', h1, h2, h3, h4, h5, h6, h7⟩ := h
  exact ⟨T', OL.dw.sp h1 (k.sp []) (fun _ _ h => by cases h), h2.trans (k.sp _), h3, h4.kp k, h5, h6, h7⟩
theorem RB.nz {w0 V w : World} {b : Nat} {T : List Nat} {u : Value} {r : RS} (h : RB w0 V w b T u r) : Nz Dw w0 V w b T r.1 := by
  obtain ⟨T', h1, h2, h3, _⟩ := h
  exact ⟨T', h1, h2, h3⟩
theorem RB.strs {w0 V w : World} {b : Nat} {T : List Nat} {u : Value} {r : RS} (h : RB w0 V w b T u r) : StrsIn w u r.2.1 := by
  obtain ⟨T', h1, h2, h3, h4, _⟩ := h
  unfold OR at h4
  rw [List.length_map] at h4
  exact StrsIn.owned h4
/-- behind one read. -/
theorem RB.read {w0 V w w' : World} {b : Nat} {T T' : List Nat} {u : Value} {r : RS} {B' : BS} (h1 : Dw w0 w b T' r.1) (h2 : Sp T V w) (h3 : Nw V T T') (h4 : OR w V.heap.size 9 u (r.2.1.map Value.string)) (h5 : ∀ q, u.ownBlock = some q → q ∉ T') (h6 : ∀ t ∈ r.2.1, t.size = 64) (h7 : B'.ms.length ≤ 32) (n : Nz Dw w0 w w' b T' B') : RB w0 V w' b T u (B', r.2.1, false) := by
  obtain ⟨T2, o2, s2, w2⟩ := n
  exact ⟨T2, o2, h2.then s2 h3, h3.trans w2 h2.size, s2.own h4 (fun g hg => h5 g hg), fun q hq => nw_nt w2 (World.ownsRow.lt h4 q hq).2 (h5 q hq), h6, h7⟩

/-- what the document's Open leaves. -/
def OpY (w0 w w' : World) (b : Nat) (T : List Nat) (p : Value) (E : Int) (K : KS) : Prop := (E = 0 → ∃ x, p = .pointer (some ⟨x, 0, none⟩) ∧ w.heap.size ≤ x ∧ ∃ T' sv mv, YX w0 w' x b T' K sv mv ∧ Sp T w w' ∧ Nw w T T' ∧ ∀ q, (sv.ownBlock = some q ∨ mv.ownBlock = some q) → w.heap.size ≤ q) ∧ (E ≠ 0 → p = .pointer none ∧ Nz Dw w0 w w' b T K.b)

set_option maxRecDepth 100000 in
set_option maxHeartbeats 8000000 in
theorem ropen_any {w0 w : World} {b : Nat} {T : List Nat} {B : BS} (h : Dw w0 w b T B) (K : Kp w0 w) (hep : (opnL B).ep < 9007199254740992) (hg : B.g + 100 < 1000000) : Calls Tryz.prog 22 #[.pointer (some ⟨b, 0, none⟩)] w fun e w' => ∃ p, e = .returned (.tuple #[p, .int .i64 (opnE B)]) ∧ OpY w0 w w' b T p (opnE B) (opnK B) := by
  have hgd := h.gd
  have hL := dw_live h
  have HT : Hid (∀ t, t ∈ T → t < w.heap.size) := OL.dw.low h
  have HTn : Hid (∀ t, t ∈ T → w0.heap.size ≤ t) := OL.dw.new h
  have HH := hid h
  have HK := hid K
  obtain ⟨E, eE⟩ : ∃ E, E = opnE B := ⟨_, rfl⟩
  obtain ⟨KK, eK⟩ : ∃ E, E = opnK B := ⟨_, rfl⟩
  rw [← eE, ← eK]
  have HEE : Hid (E = opnE B) := eE
  have HEK : Hid (KK = opnK B) := eK
  have hM2 := lvL_len B.ms 0
  obtain ⟨l, hl⟩ : ∃ l, l = lvL 0 B.ms := ⟨_, rfl⟩
  rw [← hl] at hL hM2
  have HL0 := hid hl
  obtain ⟨M, hM⟩ : ∃ M, M = l.length := ⟨_, rfl⟩
  have HM := hid hM
  have hb2 := hgd.n2
  rw [← hM] at hM2
  clear h K eE eK hM hl
  go_enter Tryz.func22, Tryz.ntmps22
  go_wp2_with fail
  refine hL.mono ?_; rintro e v1 ⟨lv, rfl, hlv, k1⟩
  have HB1 : Hid (Dw w0 v1 b T B) := OL.dw.sp HH.out (k1.sp []) (fun _ _ h => by cases h)
  have HS1 : Hid (Sp T w v1) := k1.sp T
  have HK1 : Hid (Kp w0 v1) := HK.out.trans k1
  obtain ⟨la, lg_, lc, rfl, hc1, hc2, hc3, hc4⟩ := hlv
  rw [← HM.out] at hc1 hc3 hc4 ⊢
  have HQ : Hid (0 < M → la = some ⟨lg_, 0, none⟩ ∧ lg_ ∉ T ∧ lg_ < v1.heap.size ∧ ∀ j, j < M → v1.cell? ⟨lg_, j, none⟩ = some (.int .i64 ((l.getD j 0 : Nat) : Int))) := fun h0 => ⟨(hc3 h0).1, fun ht => by have h1 := HT.out _ ht; have h2 := (hc3 h0).2.1; omega, (hc3 h0).2.2, hc4⟩
  clear hL k1 hc3 hc4
  by_cases hM0 : M = 0
  · have hx : opnX B = 20 := if_pos (by rw [← HL0.out, ← HM.out]; exact hM0)
    have hF : Hid (E = 20 ∧ KK.b = B) := by
      refine ⟨by rw [HEE.out]; unfold opnE; rw [if_neg (by rw [hx]; omega), hx], ?_⟩
      rw [HEK.out]; unfold opnK opnQ
      rw [if_neg (by rw [hx]; omega), if_pos (by rw [← HL0.out, ← HM.out]; exact hM0)]
    have hE := hF.out.1
    subst hE
    subst hM0
    clear hx
    go_wp2
    go_ret2
    exact ⟨_, rfl, fun h => absurd h (by omega), fun _ => ⟨rfl, by rw [hF.out.2]; exact ⟨T, HB1.out, HS1.out, Nw.refl _ _⟩⟩⟩
  · have hM0i : ¬ (M : Int) = 0 := by omega
    have hb0 : ((M : Int) == 0) = false := by simpa using hM0
    obtain ⟨ela, hlT, hlv1, hcl⟩ := HQ.out (by omega)
    subst ela
    have Hcl := hid hcl
    obtain ⟨R, hR⟩ : ∃ R, R = rdF l B := ⟨_, rfl⟩
    have HR := hid hR
    clear hR hcl HQ
    have hQ : Hid (opnQ B = ⟨R.1, opnL B⟩) := by
      show opnQ B = _
      unfold opnQ
      rw [if_neg (by rw [← HL0.out, ← HM.out]; exact hM0), HR.out, HL0.out]
    have hXX : Hid (opnX B = if R.2.2 = true then 21 else if nwF R.2.1 R.2.1.length = false then 11 else if ftB R.1 (opnL B).n (opnL B).s = false then 2 else 0) := by
      show opnX B = _
      unfold opnX
      rw [if_neg (by rw [← HL0.out, ← HM.out]; exact hM0), ← HL0.out, ← HR.out]
    have hLL : Hid (opnL B = nwL R.2.1 R.2.1.length) := by
      show opnL B = _
      unfold opnL
      rw [← HL0.out, ← HR.out]
    have hEnd : Hid (opnX B ≠ 0 → E = opnX B ∧ KK.b = R.1) := fun hx => by
      refine ⟨by rw [HEE.out]; unfold opnE; rw [if_neg hx], ?_⟩
      rw [HEK.out]; unfold opnK
      rw [if_neg hx, hQ.out]
    have H0 : Hid (RB w0 v1 v1 b T (.slice none 0 0) (B, [], false)) := ⟨T, HB1.out, Sp.refl _ _, Nw.refl _ _, World.ownsRow_nil _ _ _ _, fun q hq => (by cases hq), fun t ht => (by cases ht), hb2⟩
    go_wp2_with fail
    go_loopw [5, 6] (fun u j wr => ∃ k : Nat, k ≤ M ∧ j = .int .i64 k ∧ Hid ((rdF (l.take k) B).2.2 = false) ∧ Hid (RB w0 v1 wr b T u (rdF (l.take k) B)) ∧ Hid ((rdF (l.take k) B).2.1.length ≤ 2 * k)) (fun _ j _ => M - (intOf j).toNat)
    case atStart => exact ⟨0, by omega, by go_num, rfl, H0, Nat.zero_le _⟩
    case round =>
      clear H0
      obtain ⟨k, hk, rfl, HF, HA, HLe⟩ := hrel
      by_cases hlt : k < M
      · have ed : rdF (l.take (k + 1)) B = r2 (rdF (l.take k) B) (l.getD k 0) := by rw [take_nat l k (by rw [← HM.out]; exact hlt), rdF_snoc]
        obtain ⟨r, hr⟩ : ∃ r, r = rdF (l.take k) B := ⟨_, rfl⟩
        rw [← hr] at HF HA HLe ed
        obtain ⟨i, hi⟩ : ∃ i, i = l.getD k 0 := ⟨_, rfl⟩
        have hci := Hcl.out k hlt
        rw [← hi] at hci ed
        have HCi := hid hci
        have ED := hid ed
        have hcap : k < lc := by omega
        clear hr ed hi hci
        rename World => wk
        go_wp2_with fail
        go_loopw [5, 7] (fun u j wr => ∃ a : Nat, a ≤ 2 ∧ j = .int .i64 a ∧ Hid ((rI i a r).2.2 = false) ∧ Hid (RB w0 v1 wr b T u (rI i a r)) ∧ Hid ((rI i a r).2.1.length ≤ 2 * k + a)) (fun _ j _ => 2 - (intOf j).toNat)
        case atStart => exact ⟨0, by omega, by go_num, HF, HA, HLe⟩
        case round =>
          clear HF HA HLe
          obtain ⟨a, ha, rfl, HF2, HA2, HL2⟩ := hrel
          by_cases ha2 : a < 2
          · have HKr : Hid (Kp w0 wr) := HA2.out.nz.below OL.dw HB1.out HK1.out
            obtain ⟨T', a1, a2, a3, a4, a5, a6, a7⟩ := HA2.out
            have ci : wr.cell? ⟨lg_, k, none⟩ = some (.int .i64 (i : Int)) := a2.held HCi.out hlT
            have hRd := dw_read a1 HKr.out i a
            have hst : rI i (a + 1) r = r1 i (a : Int) (rI i a r) := rfl
            rw [r1_go HF2.out] at hst
            have hfn : rdE (rI i a r).1 i a = 0 → (rdT (rI i a r).1 i a).size = 64 := fun he => by
              have hle : i < (rI i a r).1.ms.length := by
                unfold rdE stE fdE at he
                by_cases hh : 0 ≤ (i : Int) ∧ (i : Int) < (rI i a r).1.ms.length
                · omega
                · rw [if_neg hh] at he; simp at he
              exact rd_size (a1.fine i hle) he
            have hNx : ∀ w', Nz Dw w0 wr w' b T' (rdB (rI i a r).1 i a) → RB w0 v1 w' b T u5 (rdB (rI i a r).1 i a, (rI i a r).2.1, false) := fun w' n => RB.read a1 a2 a3 a4 a5 a6 (by rw [(rdB_len _ _ _).1]; exact a7) n
            have HNx := hid hNx
            have HLen : Hid ((rI i a r).2.1.length ≤ 2 * k + a) := HL2
            obtain ⟨E0, hE⟩ : ∃ E, E = rdE (rI i a r).1 i a := ⟨_, rfl⟩
            obtain ⟨S, hS⟩ : ∃ S, S = rdT (rI i a r).1 i a := ⟨_, rfl⟩
            obtain ⟨B1, hB1⟩ : ∃ B, B = rdB (rI i a r).1 i a := ⟨_, rfl⟩
            obtain ⟨l1, hl1⟩ : ∃ l, l = (rI i a r).2.1 := ⟨_, rfl⟩
            rw [← hE, ← hS] at hfn hRd
            rw [← hB1] at hRd HNx
            rw [← hl1] at HNx HLen
            rw [← hE, ← hS, ← hB1, ← hl1] at hst
            have HST := hid hst
            have Hfn := hid hfn
            clear hE hS hB1 hl1 hst hfn a1 a2 a3 a4 a5 a6 a7 hNx HA2 HF2 HL2
            go_wp2_with fail
            refine hRd.mono ?_; rintro e y2 ⟨rfl, n2⟩
            have HA3 := hid (HNx.out y2 n2)
            clear hRd n2 HNx ci
            by_cases h21 : E0 = 21
            · have e1 : rI i (a + 1) r = (B1, l1, true) := by
                rw [HST.out, h21, decide_eq_true rfl, if_neg (by omega)]
              have e2 : R = (B1, l1, true) := by
                have h3 := rI_stop (i := i) (r := r) ha2 (by rw [e1])
                have h4 : rdF l B = rdF (l.take (k + 1)) B := by
                  conv => lhs; rw [← List.take_append_drop (k + 1) l]
                  exact rdF_stop _ _ _ (by rw [ED.out, h3, e1])
                rw [HR.out, h4, ED.out, h3, e1]
              have hF : Hid (E = 21 ∧ KK.b = B1) := by
                have hx : opnX B = 21 := by rw [hXX.out, if_pos (by rw [e2])]
                have := hEnd.out (by rw [hx]; omega)
                rw [hx, e2] at this; exact this
              have hE := hF.out.1
              subst hE
              subst h21
              clear e1 e2 HST Hfn
              go_wp2
              go_ret2
              refine ⟨_, rfl, fun h => absurd h (by omega), fun _ => ⟨rfl, ?_⟩⟩
              rw [hF.out.2]
              obtain ⟨T3, p1, p2, p3⟩ := HA3.out.nz
              exact ⟨T3, p1, HS1.out.trans p2, fun t ht => (p3 t ht).imp id (fun h => Nat.le_trans HS1.out.size h)⟩
            · have b21 : (E0 == 21) = false := by simpa using h21
              by_cases h0 : E0 = 0
              · have e1 : rI i (a + 1) r = (B1, l1 ++ [S], false) := by
                  rw [HST.out, decide_eq_false h21, if_pos h0]
                have h64 := Hfn.out h0
                have HE1 := hid e1
                obtain ⟨T3, a1, a2, a3, a4, a5, a6, a7⟩ := HA3.out
                dsimp only at a1 a4 a6 a7
                have HAs : Hid (Dw w0 y2 b T3 B1 ∧ Sp T v1 y2 ∧ Nw v1 T T3 ∧ (∀ q, u5.ownBlock = some q → q ∉ T3) ∧ (∀ t ∈ l1, t.size = 64) ∧ B1.ms.length ≤ 32) := ⟨a1, a2, a3, a5, a6, a7⟩
                have HOr : Hid (OR y2 v1.heap.size 9 u5 (l1.map Value.string)) := a4
                have hsz2 := a2.size
                have HLq : Hid ((l1.map Value.string).length ≤ 100) := by show _ ≤ _; rw [List.length_map]; have := HLen.out; omega
                have h640 := hid h64
                subst h0
                clear e1 h64 a1 a2 a3 a4 a5 a6 a7 HST Hfn HA3 h21 b21
                go_wp2_with (at_builtin; refine wpList_append_or2 rfl _ _ 70 9 (.string ByteArray.empty) 16 Tryz.underlying70 info_str rfl (by omega) rfl v1.heap.size _ _ rfl (HOr.out.kp ((Kp.refl y2).alloc (.cells #[.string S] 9))) (.string S) rfl _ rfl (by rw [World.cell?_alloc_at _ _ _ _ rfl]; rfl) (by have := HLq.out; omega) (by simp; omega) ?_)
                intro v' y3 ho3 hg3 hv3
                have kal : Kp y2 (y2.alloc (.cells #[.string S] 9)) := (Kp.refl y2).alloc _
                have sp3 : Sp u5.ownBlock.toList y2 y3 := (kal.sp _).trans (Sp.grown hg3)
                have HA4 : Hid (RB w0 v1 y3 b T v' (rI i (a + 1) r)) := by
                  obtain ⟨a1, a2, a3, a5, a6, a7⟩ := HAs.out
                  have low := OL.dw.low a1
                  have q0 : ∀ q, u5.ownBlock = some q → v1.heap.size ≤ q ∧ q < y2.heap.size := fun q hq => World.ownsRow.lt HOr.out q hq
                  show RB w0 v1 y3 b T v' (rI i (a + 1) r)
                  rw [HE1.out]
                  refine ⟨T3, OL.dw.sp a1 sp3 (fun t ht hm => a5 t (by simpa using hm) ht), Sp.cutN (Kp.refl v1) (U := u5.ownBlock.toList ++ T) ((a2.mono (fun t ht => by simp [ht])).trans (sp3.mono (fun t ht => by simp at ht; simp [ht]))) (fun q hq => ?_), a3, ?_, fun q hq => ?_, ?_, a7⟩
                  · rcases List.mem_append.1 hq with hq | hq
                    · right; exact (q0 q (by simpa using hq)).1
                    · exact .inl hq
                  · show OR y3 v1.heap.size 9 v' ((l1 ++ [S]).map Value.string)
                    rw [List.map_append]; exact ho3
                  · rcases hv3 with e | e
                    · exact a5 q (e ▸ hq)
                    · rw [e] at hq
                      have hqq : y2.heap.size + 1 = q := by injection hq
                      intro ht
                      have h1 := low q ht
                      omega
                  · intro t ht
                    rcases List.mem_append.1 ht with ht | ht
                    · exact a6 t ht
                    · rw [List.mem_singleton.1 ht]; exact h640.out
                have HF4 : Hid ((rI i (a + 1) r).2.2 = false) := by show _ = _; rw [HE1.out]
                have HL4 : Hid ((rI i (a + 1) r).2.1.length ≤ 2 * k + (a + 1)) := by
                  show _ ≤ _
                  rw [HE1.out]
                  have := HLen.out
                  simp; omega
                clear ho3 hg3 hv3 kal sp3
                go_wp2
                go_roundw
                case rel => exact ⟨a + 1, by omega, by go_num, HF4, HA4, HL4⟩
                case measure => simp [intOf]; omega
              · have b0 : (E0 == 0) = false := by simpa using h0
                have e1 : rI i (a + 1) r = (B1, l1, false) := by
                  rw [HST.out, decide_eq_false h21, if_neg h0]
                have HA4 : Hid (RB w0 v1 y2 b T u5 (rI i (a + 1) r)) := by rw [e1]; exact HA3
                have HF4 : Hid ((rI i (a + 1) r).2.2 = false) := by show _ = _; rw [e1]
                have HL4 : Hid ((rI i (a + 1) r).2.1.length ≤ 2 * k + (a + 1)) := by
                  show _ ≤ _
                  rw [e1]
                  have := HLen.out
                  dsimp only
                  omega
                clear e1 HST Hfn HA3
                go_wp2
                go_roundw
                case rel => exact ⟨a + 1, by omega, by go_num, HF4, HA4, HL4⟩
                case measure => simp [intOf]; omega
          · have ei : a = 2 := by omega
            rw [ei, rI_two] at HF2 HA2 HL2
            rw [← ED.out] at HF2 HA2 HL2
            have HL3 : Hid ((rdF (l.take (k + 1)) B).2.1.length ≤ 2 * (k + 1)) := HL2
            clear ei
            go_wp2
            go_roundw
            case rel => exact ⟨k + 1, by omega, by go_num, HF2, HA2, HL3⟩
            case measure => simp [intOf]; omega
      · have ek : k = M := by omega
        rw [ek, List.take_of_length_le (by rw [← HM.out]; omega), ← HR.out] at HF HA
        clear ek HLe
        rename World => v2
        have hSt := HA.out.strs
        have hSz : ∀ t ∈ R.2.1, t.size = 64 := by obtain ⟨_, _, _, _, _, _, a6, _⟩ := HA.out; exact a6
        have HK2 : Hid (Kp w0 v2) := HA.out.nz.below OL.dw HB1.out HK1.out
        have HN2 : Hid (Nz Dw w0 w v2 b T R.1) := by
          obtain ⟨T2, o2, s2, n2⟩ := HA.out.nz
          exact ⟨T2, o2, HS1.out.trans s2, fun t ht => (n2 t ht).imp id (fun h => Nat.le_trans HS1.out.size h)⟩
        have hXY : Hid (opnX B = if nwF R.2.1 R.2.1.length = false then 11 else if ftB R.1 (opnL B).n (opnL B).s = false then 2 else 0) := by
          show opnX B = _
          rw [hXX.out, if_neg (by rw [HF.out]; simp)]
        have hNw := rnewestN_any u5 R.2.1 v2 hSt (fun i hi => by
          rw [List.getD_eq_getElem?_getD, List.getElem?_eq_getElem hi]
          have := hSz _ (List.getElem_mem hi)
          show (R.2.1[i]).size ≤ _
          omega)
        rw [← hLL.out] at hNw
        obtain ⟨sla, sln, slc, hsl⟩ := hSt.sl
        subst hsl
        have hgood : nwF R.2.1 R.2.1.length = true → lg (opnL B) = true := fun h => by rw [hLL.out]; exact nw_good _ h
        obtain ⟨F, hF⟩ : ∃ F, F = nwF R.2.1 R.2.1.length := ⟨_, rfl⟩
        rw [← hF] at hNw hXY hgood
        obtain ⟨L, hL⟩ : ∃ L, L = opnL B := ⟨_, rfl⟩
        rw [← hL] at hNw hXY hQ hgood hep
        obtain ⟨n, s, ep, sts, mks⟩ := L
        have Hgood := hid hgood
        clear hF hL hSt hSz hgood hXX hLL HA HF
        dsimp only at hNw hXY hep
        unfold lV at hNw
        go_wp2_with fail
        refine hNw.mono ?_; rintro e v3 ⟨u1, u2, rfl, m1, m2, k3⟩
        have HK3 : Hid (Kp w0 v3) := HK2.out.trans k3
        have HN3 : Hid (Nz Dw w0 w v3 b T R.1) := HN2.out.kp OL.dw k3
        have K23 : Hid (Kp v2 v3) := k3
        obtain ⟨a1, g1, o1, c1, rfl, A1, B1⟩ := m1
        obtain ⟨a2, g2, o2, c2, rfl, A2, B2⟩ := m2
        have HM1 : Hid (Nl v3 (.slice a1 sts.length c1) sts) := ⟨_, _, _, _, rfl, A1⟩
        have HM2 : Hid (Nl v3 (.slice a2 mks.length c2) mks) := ⟨_, _, _, _, rfl, A2⟩
        have HG1 : Hid (0 < sts.length → a1 = some ⟨g1, o1, none⟩ ∧ v2.heap.size ≤ g1) := fun h => ⟨A1.ha h, B1 h⟩
        have HG2 : Hid (0 < mks.length → a2 = some ⟨g2, o2, none⟩ ∧ v2.heap.size ≤ g2) := fun h => ⟨A2.ha h, B2 h⟩
        clear hNw k3 A1 A2 B1 B2
        cases F with
        | false =>
          have hF : Hid (E = 11 ∧ KK.b = R.1) := by
            have hx : opnX B = 11 := by rw [hXY.out, if_pos rfl]
            have := hEnd.out (by rw [hx]; omega)
            rw [hx] at this; exact this
          have hE := hF.out.1
          subst hE
          go_wp2
          go_ret2
          exact ⟨_, rfl, fun h => absurd h (by omega), fun _ => ⟨rfl, by rw [hF.out.2]; exact HN3.out.kp OL.dw ((Kp.refl _).alloc _)⟩⟩
        | true =>
          have hgo := Hgood.out rfl
          have hgl := (lg_iff _).1 hgo
          dsimp only at hgl
          obtain ⟨gg0, ge1, ge2, gl1, gl2, gm⟩ := hgl
          obtain ⟨q1, q2, q3, q4⟩ := (gg_iff _ _).1 gg0
          have hsm : Sm B R.1 := by rw [HR.out]; exact Sm.rdF _ _
          have KU : Hid (Kp v3 (v3.alloc (.cells #[.int .i64 n, .int .i64 s, .int .i64 ep, .slice a1 sts.length c1, .slice a2 mks.length c2] 66))) := (Kp.refl v3).alloc _
          have LU : Hid (Lc (v3.alloc (.cells #[.int .i64 n, .int .i64 s, .int .i64 ep, .slice a1 sts.length c1, .slice a2 mks.length c2] 66)) v3.heap.size n s ep (.slice a1 sts.length c1) (.slice a2 mks.length c2)) := Lc.new v3 _ _ _ _ _ _
          obtain ⟨U, hU⟩ : ∃ U, U = v3.alloc (.cells #[.int .i64 n, .int .i64 s, .int .i64 ep, .slice a1 sts.length c1, .slice a2 mks.length c2] 66) := ⟨_, rfl⟩
          have HU := hid hU
          rw [← hU] at KU LU
          obtain ⟨T3, hB2, hS2, hN3⟩ := HN2.out
          have hB3 : Dw w0 v3 b T3 R.1 := OL.dw.sp hB2 (K23.out.sp []) (fun _ _ h => by cases h)
          have hS3 : Sp T w v3 := hS2.trans (K23.out.sp _)
          have HT32 : Hid (∀ t, t ∈ T3 → t < v2.heap.size) := OL.dw.low hB2
          clear hB2 hS2
          have hFt := rfits_any (OL.dw.sp hB3 (KU.out.sp []) (fun _ _ h => by cases h)) n s gg0
          have HB3 := hid hB3
          have HS3 : Hid (Sp T w v3 ∧ Nw w T T3) := ⟨hS3, hN3⟩
          unfold gV at hFt
          obtain ⟨D, hD⟩ : ∃ D, D = ftB R.1 n s := ⟨_, rfl⟩
          rw [← hD] at hFt hXY
          have HD := hid hD
          have Hsm := hid hsm
          obtain ⟨nS, hnS⟩ : ∃ k, k = sts.length := ⟨_, rfl⟩
          obtain ⟨nM, hnM⟩ : ∃ k, k = mks.length := ⟨_, rfl⟩
          have HnS := hid hnS
          have HnM := hid hnM
          rw [← hnS] at gl1 LU HM1 HG1 HU
          rw [← hnM] at gl2 LU HM2 HG2 HU
          have Hgm := hid gm
          clear hU hB3 hS3 hN3 hD hsm hnS gm hnM
          go_wp2_with fail
          rw [← HnS.out, ← HnM.out, ← HU.out]
          clear HU
          refine hFt.mono ?_; rintro e v4 ⟨rfl, k4⟩
          have K34 : Hid (Kp v3 v4) := KU.out.trans k4
          have HK4 : Hid (Kp w0 v4) := HK3.out.trans K34.out
          have HN4 : Hid (Nz Dw w0 w v4 b T R.1) := HN3.out.kp OL.dw K34.out
          have L4 := LU.out.kept k4
          have HL4 := hid L4
          obtain ⟨d0, d1, d2, d3, d4⟩ := L4
          clear hFt k4 LU KU
          cases D with
          | false =>
            have hF : Hid (E = 2 ∧ KK.b = R.1) := by
              have hx : opnX B = 2 := by rw [hXY.out, if_neg (by simp), if_pos rfl]
              have := hEnd.out (by rw [hx]; omega)
              rw [hx] at this; exact this
            have hE := hF.out.1
            subst hE
            go_wp2
            go_ret2
            exact ⟨_, rfl, fun h => absurd h (by omega), fun _ => ⟨rfl, by rw [hF.out.2]; exact HN4.out⟩⟩
          | true =>
            have hx0 : opnX B = 0 := by rw [hXY.out, if_neg (by simp), if_neg (by simp)]
            have hF : Hid (E = puE' ⟨R.1, ⟨n, s, ep, sts, mks⟩⟩ (wdL R.1 ⟨n, s, ep, sts, mks⟩) ∧ KK = puK ⟨R.1, ⟨n, s, ep, sts, mks⟩⟩ (wdL R.1 ⟨n, s, ep, sts, mks⟩)) := by
              refine ⟨?_, ?_⟩
              · rw [HEE.out]; unfold opnE; rw [if_pos hx0, hQ.out]
              · rw [HEK.out]; unfold opnK; rw [if_pos hx0, hQ.out]
            have hmn : (R.1.ms.length : Int) = n := by
              have h1 := HD.out
              unfold ftB at h1
              exact (of_decide_eq_true h1.symm).1
            clear hXY hEnd hx0 HD
            have kX : Kp v4 (v4.alloc (.cells #[.pointer (some ⟨b, 0, none⟩), .int .i64 n, .int .i64 s, .int .i64 ep, .slice a1 nS c1, .slice a2 nM c2] 68)) := (Kp.refl v4).alloc _
            have hxc : ∀ (j : Nat) (v : Value), #[Value.pointer (some ⟨b, 0, none⟩), .int .i64 n, .int .i64 s, .int .i64 ep, .slice a1 nS c1, .slice a2 nM c2][j]? = some v → (v4.alloc (.cells #[.pointer (some ⟨b, 0, none⟩), .int .i64 n, .int .i64 s, .int .i64 ep, .slice a1 nS c1, .slice a2 nM c2] 68)).cell? ⟨v4.heap.size, j, none⟩ = some v := fun j v hv => by
              rw [World.cell?_alloc_at _ _ _ _ rfl]; exact hv
            have hT3l := OL.dw.low HB3.out
            have hs34 := K34.out.size
            have hs5 : (v4.alloc (.cells #[.pointer (some ⟨b, 0, none⟩), .int .i64 n, .int .i64 s, .int .i64 ep, .slice a1 nS c1, .slice a2 nM c2] 68)).heap.size = v4.heap.size + 1 := by simp
            have nT3 : v4.heap.size ∉ T3 := fun ht => by have := hT3l _ ht; omega
            have g1n : ∀ q, Value.ownBlock (.slice a1 nS c1) = some q → v2.heap.size ≤ q ∧ q < v3.heap.size := fun q hq => by
              obtain ⟨e1, e2⟩ := HG1.out (by omega)
              rw [e1] at hq
              have hgq : g1 = q := by injection hq
              subst hgq
              exact ⟨e2, HM1.out.lt (by rw [← HnS.out]; omega) g1 (by rw [e1]; rfl)⟩
            have g2n : ∀ q, Value.ownBlock (.slice a2 nM c2) = some q → v2.heap.size ≤ q ∧ q < v3.heap.size := fun q hq => by
              obtain ⟨e1, e2⟩ := HG2.out (by omega)
              rw [e1] at hq
              have hgq : g2 = q := by injection hq
              subst hgq
              exact ⟨e2, HM2.out.lt (by rw [← HnM.out]; omega) g2 (by rw [e1]; rfl)⟩
            have hT3 : ∀ t, t ∈ T3 → t < v2.heap.size := HT32.out
            have X5 : YX w0 (v4.alloc (.cells #[.pointer (some ⟨b, 0, none⟩), .int .i64 n, .int .i64 s, .int .i64 ep, .slice a1 nS c1, .slice a2 nM c2] 68)) v4.heap.size b T3 ⟨R.1, ⟨n, s, ep, sts, mks⟩⟩ (.slice a1 nS c1) (.slice a2 nM c2) := by
              refine ⟨by omega, by have := HK4.out.size; omega, nT3, hxc 0 _ rfl, hxc 1 _ rfl, hxc 2 _ rfl, hxc 3 _ rfl, hxc 4 _ rfl, hxc 5 _ rfl, fun o => by simp, OL.dw.sp HB3.out ((K34.out.trans kX).sp []) (fun _ _ h => by cases h), HM1.out.kept (K34.out.trans kX), HM2.out.kept (K34.out.trans kX), fun q hq => ?_, fun q hq => ?_⟩
              · obtain ⟨h1, h2⟩ := g1n q hq
                refine ⟨fun hm => ?_, by omega⟩
                rcases List.mem_cons.1 hm with e | e
                · omega
                · have := hT3 q e; omega
              · obtain ⟨h1, h2⟩ := g2n q hq
                refine ⟨fun hm => ?_, by omega⟩
                rcases List.mem_cons.1 hm with e | e
                · omega
                · have := hT3 q e; omega
            have HX5 := hid X5
            have HKX := hid kX
            have HL5 := hid (HL4.out.kept kX)
            obtain ⟨V5, hV5⟩ : ∃ V, V = v4.alloc (.cells #[.pointer (some ⟨b, 0, none⟩), .int .i64 n, .int .i64 s, .int .i64 ep, .slice a1 nS c1, .slice a2 nM c2] 68) := ⟨_, rfl⟩
            have HV5 := hid hV5
            rw [← hV5] at HX5 HKX hs5 HL5
            have HK5 : Hid (Kp w0 V5) := HK4.out.trans HKX.out
            have hCo := copied_any n s ep sts mks (.slice a1 nS c1) (.slice a2 nM c2) V5 HX5.out.n1 HX5.out.n2 (by rw [← HnS.out]; omega) (by rw [← HnM.out]; omega)
            have HT3l : Hid (∀ t, t ∈ T3 → t < V5.heap.size) := OL.dw.low HX5.out.bay
            clear hV5 X5 kX hxc nT3 g1n g2n hT3l d0 d1 d2 d3 d4
            unfold lV at hCo
            obtain ⟨d0, d1, d2, d3, d4⟩ := HL4.out
            go_upto_region 23 with fail
            rw [← HV5.out]
            clear HV5 d0 d1 d2 d3 d4
            obtain ⟨d0, d1, d2, d3, d4⟩ := HL5.out
            go_wp2_with fail
            refine hCo.mono ?_; rintro e v6 ⟨y1, y2, rfl, tw, k6⟩
            have hlen1 : 0 < sts.length := by rw [← HnS.out]; omega
            have hlen2 : 0 < mks.length := by rw [← HnM.out]; omega
            obtain ⟨G1, C1, G2, C2, rfl, rfl, w1, w2, w3, w4, gne, _, _, _, _⟩ := tw.shape hlen1 hlen2
            have lo1 := tw.lo1 G1 rfl
            have lo2 := tw.lo2 G2 rfl
            obtain ⟨N, hN⟩ : ∃ N, N = R.1.ms.length := ⟨_, rfl⟩
            have HNN := hid hN
            rw [← hN] at hmn
            have eS : sts.length = N := by rw [← HnS.out]; omega
            have eM : mks.length = N := by rw [← HnM.out]; omega
            have HeS : Hid (sts.length = N ∧ mks.length = N) := ⟨eS, eM⟩
            rw [eS] at tw w1
            rw [eM] at tw w3
            have TW6 : Hid (Tv v6 V5.heap.size (.slice (some ⟨G1, 0, none⟩) N C1) (.slice (some ⟨G2, 0, none⟩) N C2) sts mks) := tw
            have K56 : Hid (Kp V5 v6) := k6
            have LN : Hid (Lc (v6.alloc (.cells #[.int .i64 n, .int .i64 s, .int .i64 ep, .slice (some ⟨G1, 0, none⟩) N C1, .slice (some ⟨G2, 0, none⟩) N C2] 66)) v6.heap.size n s ep (.slice (some ⟨G1, 0, none⟩) N C1) (.slice (some ⟨G2, 0, none⟩) N C2)) := Lc.new v6 _ _ _ _ _ _
            have KN : Hid (Kp v6 (v6.alloc (.cells #[.int .i64 n, .int .i64 s, .int .i64 ep, .slice (some ⟨G1, 0, none⟩) N C1, .slice (some ⟨G2, 0, none⟩) N C2] 66))) := (Kp.refl v6).alloc _
            obtain ⟨V, hV⟩ : ∃ V, V = v6.alloc (.cells #[.int .i64 n, .int .i64 s, .int .i64 ep, .slice (some ⟨G1, 0, none⟩) N C1, .slice (some ⟨G2, 0, none⟩) N C2] 66) := ⟨_, rfl⟩
            have HV := hid hV
            rw [← hV] at LN KN
            rw [eS, eM]
            clear hCo tw k6 hV eS eM d0 d1 d2 d3 d4 hN hlen1 hlen2
            go_upto_region 24 with fail
            rw [← HV.out]
            clear HV
            have K5V : Hid (Kp V5 V) := K56.out.trans KN.out
            have XV : Hid (YX w0 V v4.heap.size b T3 ⟨R.1, ⟨n, s, ep, sts, mks⟩⟩ (.slice a1 nS c1) (.slice a2 nM c2)) := HX5.out.kp K5V.out
            have TW : Hid (Tv V V5.heap.size (.slice (some ⟨G1, 0, none⟩) N C1) (.slice (some ⟨G2, 0, none⟩) N C2) sts mks) := TW6.out.kp KN.out
            have lV6 : v6.heap.size < V.heap.size := World.block_lt_of_cell? _ _ LN.out.c0
            have hGT : Hid (∀ t, t ∈ v4.heap.size :: T3 → t ∉ [G1, G2]) := fun t ht hm => by
              simp only [List.mem_cons, List.not_mem_nil, or_false] at hm ht
              rcases ht with e | e
              · omega
              · have := HT3l.out t e; omega
            have gN : Hid (v6.heap.size ∉ [G1, G2]) := fun hm => by
              simp only [List.mem_cons, List.not_mem_nil, or_false] at hm
              omega
            have hLq : Hid (∀ q, (Value.ownBlock (.slice a1 nS c1) = some q ∨ Value.ownBlock (.slice a2 nM c2) = some q) → q ∉ [G1, G2]) := fun q hq hm => by
              have hqq : q < V5.heap.size := by
                rcases hq with hq | hq
                · exact (HX5.out.q1 q hq).2
                · exact (HX5.out.q2 q hq).2
              simp only [List.mem_cons, List.not_mem_nil, or_false] at hm
              omega
            clear TW6
            go_wp2_with fail
            go_loopw [14] (fun j wr => ∃ k : Nat, k ≤ N ∧ j = .int .i64 k ∧ Hid (Sp [G1, G2] V wr) ∧ Hid (Tv wr V5.heap.size (.slice (some ⟨G1, 0, none⟩) N C1) (.slice (some ⟨G2, 0, none⟩) N C2) (wdV R.1 1 k sts) (wdV R.1 0 k mks))) (fun j _ => N - (intOf j).toNat)
            case atStart => exact ⟨0, by omega, by go_num, Sp.refl _ _, TW⟩
            case round =>
              clear TW
              obtain ⟨j, hj, rfl, HSj, HTj⟩ := hrel
              have HXj : Hid (YX w0 wr v4.heap.size b T3 ⟨R.1, ⟨n, s, ep, sts, mks⟩⟩ (.slice a1 nS c1) (.slice a2 nM c2)) := XV.out.sp HSj.out hGT.out (fun q hq => hLq.out q (.inl hq)) (fun q hq => hLq.out q (.inr hq))
              obtain ⟨m_, cap_, X, FF, hTT, hrx⟩ := HXj.out.bay
              dsimp only at hrx
              have rc0 := hrx.c0
              have rk1 := hrx.k1
              have rk2 := hrx.k2
              rw [← HNN.out] at rc0 rk1
              by_cases hlt2 : j < N
              · have har := hrx.ar j (by rw [← HNN.out]; exact hlt2)
                have hdd := rx_dead hrx j (by rw [← HNN.out]; exact hlt2)
                obtain ⟨dd, hd⟩ : ∃ d, d = ddB R.1 j := ⟨_, rfl⟩
                rw [← hd] at hdd
                obtain ⟨xj, hxj⟩ : ∃ y, y = X.getD j 0 := ⟨_, rfl⟩
                rw [← hxj] at har hdd
                have hcapj : j < cap_ := by omega
                clear hxj hrx
                cases dd with
                | false =>
                  have HTk : Hid (Tv wr V5.heap.size (.slice (some ⟨G1, 0, none⟩) N C1) (.slice (some ⟨G2, 0, none⟩) N C2) (wdV R.1 1 (j + 1) sts) (wdV R.1 0 (j + 1) mks)) := by rw [wd_live hd.symm, wd_live hd.symm]; exact HTj
                  clear hd HTj
                  go_wp2
                  go_roundw
                  case rel => exact ⟨j + 1, by omega, by go_num, HSj, HTk⟩
                  case measure => simp [intOf]; omega
                | true =>
                  have hw1 := wdV_len R.1 1 sts j
                  have hw2 := wdV_len R.1 0 mks j
                  obtain ⟨lx, hlx⟩ : ∃ l, l = wdV R.1 1 j sts := ⟨_, rfl⟩
                  obtain ⟨ly, hly⟩ : ∃ l, l = wdV R.1 0 j mks := ⟨_, rfl⟩
                  have HLa : Hid (wdV R.1 1 (j + 1) sts = lx.set j 1 ∧ wdV R.1 0 (j + 1) mks = ly.set j 0) := by rw [hlx, hly]; exact ⟨wd_dead hd.symm, wd_dead hd.symm⟩
                  rw [← hlx] at hw1 HTj
                  rw [← hly] at hw2 HTj
                  rw [HeS.out.1] at hw1
                  rw [HeS.out.2] at hw2
                  obtain ⟨_, _, _, _, e1, e2, _, _, _, _, _, f1, f2, cc1, cc2⟩ := HTj.out.shape (by omega) (by omega)
                  have z1 := cc1 j (by omega)
                  have z2 := cc2 j (by omega)
                  simp only [Value.slice.injEq, Option.some.injEq, Addr.mk.injEq, and_true] at e1 e2
                  rw [← e1.1] at z1 f1
                  rw [← e2.1] at z2 f2
                  obtain ⟨s1, hs1'⟩ : ∃ s, s = lx.getD j 0 := ⟨_, rfl⟩
                  obtain ⟨s2, hs2'⟩ : ∃ s, s = ly.getD j 0 := ⟨_, rfl⟩
                  rw [← hs1'] at z1
                  rw [← hs2'] at z2
                  have gB1 : v6.heap.size ≠ G1 := by omega
                  have gB2 : v6.heap.size ≠ G2 := by omega
                  have gne' : G2 ≠ G1 := fun h => gne h.symm
                  obtain ⟨d0, d1, d2, d3, d4⟩ : Lc wr v6.heap.size n s ep (.slice (some ⟨G1, 0, none⟩) N C1) (.slice (some ⟨G2, 0, none⟩) N C2) := ⟨HSj.out.held LN.out.c0 gN.out, HSj.out.held LN.out.c1 gN.out, HSj.out.held LN.out.c2 gN.out, HSj.out.held LN.out.c3 gN.out, HSj.out.held LN.out.c4 gN.out⟩
                  have hcS : ((j : Int) < (N : Int)) := by omega
                  have hc0 : (0 : Int) ≤ (j : Int) := by omega
                  have hcC1 : j < C1 := by omega
                  have hcC2 : j < C2 := by omega
                  have TZ : Hid (Tv ((wr.setCell ⟨G1, j, none⟩ (.int .i64 1)).setCell ⟨G2, j, none⟩ (.int .i64 0)) V5.heap.size (.slice (some ⟨G1, 0, none⟩) N C1) (.slice (some ⟨G2, 0, none⟩) N C2) (wdV R.1 1 (j + 1) sts) (wdV R.1 0 (j + 1) mks)) := by
                    rw [HLa.out.1, HLa.out.2]
                    exact HTj.out.put j 1 0
                  have HSZ : Hid (Sp [G1, G2] V ((wr.setCell ⟨G1, j, none⟩ (.int .i64 1)).setCell ⟨G2, j, none⟩ (.int .i64 0))) := HSj.out.trans (((Sp.refl _ _).set G1 j (by simp) _).set G2 j (by simp) _)
                  clear cc1 cc2 e1 e2 hs1' hs2' hlx hly hd hw1 hw2 HTj HLa
                  go_wp2
                  go_roundw
                  case rel => exact ⟨j + 1, by omega, by go_num, HSZ, TZ⟩
                  case measure => simp [intOf]; omega
              · have ej : j = N := by omega
                rw [ej] at HTj
                clear ej hrx
                have HTf : Hid (Tv wr V5.heap.size (.slice (some ⟨G1, 0, none⟩) N C1) (.slice (some ⟨G2, 0, none⟩) N C2) (wdL R.1 ⟨n, s, ep, sts, mks⟩).sts (wdL R.1 ⟨n, s, ep, sts, mks⟩).mks) := by
                  show Tv _ _ _ _ (wdV R.1 1 R.1.ms.length sts) (wdV R.1 0 R.1.ms.length mks)
                  rw [← HNN.out]
                  exact HTj.out
                have HKwr : Hid (Kp w0 wr) := Sp.kp (HK5.out.trans K5V.out) HSj.out (fun t ht => by
                  have := HK5.out.size
                  simp only [List.mem_cons, List.not_mem_nil, or_false] at ht
                  rcases ht with e | e <;> omega)
                have hPb := rpublish_l HXj.out HKwr.out (wdL R.1 ⟨n, s, ep, sts, mks⟩) (.slice (some ⟨G1, 0, none⟩) N C1) (.slice (some ⟨G2, 0, none⟩) N C2) HTf.out.n1 HTf.out.n2 (fun q hq => by
                    obtain ⟨h1, h2⟩ := HTf.out.lo1 q hq
                    refine ⟨fun hm => ?_, h2⟩
                    rcases List.mem_cons.1 hm with e | e
                    · omega
                    · have := HT3l.out q e; omega) (fun q hq => by
                    obtain ⟨h1, h2⟩ := HTf.out.lo2 q hq
                    refine ⟨fun hm => ?_, h2⟩
                    rcases List.mem_cons.1 hm with e | e
                    · omega
                    · have := HT3l.out q e; omega) (by show (0 : Int) ≤ ep; omega) (by show ep < _; exact hep) (by rw [Hsm.out.g]; exact hg)
                rw [← hF.out.1, ← hF.out.2] at hPb
                unfold lV at hPb
                dsimp only [wdL] at hPb
                obtain ⟨d0, d1, d2, d3, d4⟩ : Lc wr v6.heap.size n s ep (.slice (some ⟨G1, 0, none⟩) N C1) (.slice (some ⟨G2, 0, none⟩) N C2) := ⟨HSj.out.held LN.out.c0 gN.out, HSj.out.held LN.out.c1 gN.out, HSj.out.held LN.out.c2 gN.out, HSj.out.held LN.out.c3 gN.out, HSj.out.held LN.out.c4 gN.out⟩
                clear HTj
                go_wp2_with fail
                refine hPb.mono ?_; rintro e v7 ⟨rfl, h7, h8⟩
                obtain ⟨T7, s7, m7, X7, q7, n7, f7⟩ : ∃ T7 s7 m7, YX w0 v7 v4.heap.size b T7 KK s7 m7 ∧ Sp (v4.heap.size :: T3) wr v7 ∧ Nw wr T3 T7 ∧ (E = 0 → ∀ q, (s7.ownBlock = some q ∨ m7.ownBlock = some q) → V5.heap.size ≤ q) := by
                  by_cases hE : E = 0
                  · obtain ⟨T8, X8, q8, n8⟩ := h8 hE
                    exact ⟨T8, _, _, X8, q8, n8, fun _ q hq => hq.elim (fun h => (HTf.out.lo1 q h).1) (fun h => (HTf.out.lo2 q h).1)⟩
                  · obtain ⟨T8, s8, m8, X8, q8, n8, _⟩ := h7
                    exact ⟨T8, s8, m8, X8, q8, n8, fun h => absurd h hE⟩
                have HF7 := hid f7
                clear h7 h8 f7
                have HX7 := hid X7
                have HS7 : Hid (Sp T w v7) := by
                  have k3V : Kp v3 V := (K34.out.trans HKX.out).trans K5V.out
                  have h1 : Sp (G1 :: G2 :: v4.heap.size :: T3) v3 v7 := ((k3V.sp _).trans (HSj.out.mono (fun t ht => by
                    simp only [List.mem_cons, List.not_mem_nil, or_false] at ht ⊢
                    rcases ht with e | e
                    · exact .inl e
                    · exact .inr (.inl e)))).trans (q7.mono (fun t ht => List.mem_cons_of_mem _ (List.mem_cons_of_mem _ ht)))
                  have h2 : Sp T3 v3 v7 := Sp.cutN (Kp.refl v3) h1 (fun u hu => by
                    simp only [List.mem_cons] at hu
                    rcases hu with e | e | e | e
                    · right; omega
                    · right; omega
                    · right; omega
                    · exact .inl e)
                  exact HS3.out.1.then h2 HS3.out.2
                have HN7 : Hid (Nw w T T7) := fun t ht => by
                  have hws : w.heap.size ≤ wr.heap.size := by have := HS3.out.1.size; have := K34.out.size; have := HKX.out.size; have := K5V.out.size; have := HSj.out.size; omega
                  rcases n7 t ht with h | h
                  · exact HS3.out.2 t h
                  · exact .inr (Nat.le_trans hws h)
                clear X7 q7 n7 hPb
                by_cases hE0 : E = 0
                · subst hE0
                  go_wp2
                  go_ret2
                  refine ⟨_, rfl, fun _ => ⟨v4.heap.size, rfl, ?_, T7, s7, m7, HX7.out, HS7.out, HN7.out, fun q hq => ?_⟩, fun h => absurd rfl h⟩
                  · have := HS3.out.1.size
                    omega
                  · have := HF7.out (by first | trivial | rfl) q hq
                    have := HS3.out.1.size
                    have := K34.out.size
                    have := HKX.out.size
                    omega
                · have hb : (E == 0) = false := by simpa using hE0
                  have HE0 : Hid (E ≠ 0) := hE0
                  go_wp2
                  go_ret2
                  exact ⟨_, rfl, fun h => absurd h HE0.out, fun _ => ⟨rfl, T7, HX7.out.bay, HS7.out, HN7.out⟩⟩

end Go.Proofs.YtinpkfdmellleaaGreat

namespace Go.Proofs.YtinpkfdmellleaaGreat
open Go.RowKit Plain
set_option linter.unusedVariables false

theorem zrow (u : World) (M : Nat) (h : M ≤ 1000) : Nl (u.alloc (.cells (madeCells #[.int .i64 0] M) 3)) (.slice (some ⟨u.heap.size, 0, none⟩) M M) (List.replicate M 0) := by
  have := (Fe.made 3 u M h).nums
  rw [range_rep] at this
  exact this
theorem zrow0 (u : World) (M S : Nat) (o1 o2 : Obj) (h : M ≤ 1000) : Nl (((u.alloc (.cells (madeCells #[.int .i64 0] M) 3)).alloc o1).alloc o2).drew (.slice (some ⟨u.heap.size, 0, none⟩) M M) (newL M S).sts := by
  show Nl _ _ (List.replicate ((M : Int)).toNat 0)
  rw [Int.toNat_natCast]
  exact (zrow u M h).kept (((Kp.refl _).alloc _).alloc _).drew
theorem zrow1 (u : World) (M S : Nat) (o1 o2 : Obj) (h : M ≤ 1000) : Nl (((u.alloc o1).alloc (.cells (madeCells #[.int .i64 0] M) 3)).alloc o2).drew (.slice (some ⟨u.heap.size + 1, 0, none⟩) M M) (newL M S).sts := by
  show Nl _ _ (List.replicate ((M : Int)).toNat 0)
  rw [Int.toNat_natCast]
  have := zrow (u.alloc o1) M h
  simp only [asz] at this
  exact this.kept ((Kp.refl _).alloc _).drew
theorem zrow2 (u : World) (M S : Nat) (o1 o2 : Obj) (h : M ≤ 1000) : Nl (((u.alloc o1).alloc o2).alloc (.cells (madeCells #[.int .i64 0] M) 3)).drew (.slice (some ⟨u.heap.size + 1 + 1, 0, none⟩) M M) (newL M S).sts := by
  show Nl _ _ (List.replicate ((M : Int)).toNat 0)
  rw [Int.toNat_natCast]
  have := zrow ((u.alloc o1).alloc o2) M h
  simp only [asz] at this
  exact this.kept (Kp.refl _).drew
theorem lbox0 (u : World) (M S : Nat) (s1 s2 : Value) (o1 o2 : Obj) : Lc (((u.alloc (.cells #[.int .i64 M, .int .i64 S, .int .i64 1, s1, s2] 66)).alloc o1).alloc o2).drew u.heap.size M S 1 s1 s2 := (Lc.new u _ _ _ _ _ _).kept (((Kp.refl _).alloc _).alloc _).drew
theorem lbox1 (u : World) (M S : Nat) (s1 s2 : Value) (o1 o2 : Obj) : Lc (((u.alloc o1).alloc (.cells #[.int .i64 M, .int .i64 S, .int .i64 1, s1, s2] 66)).alloc o2).drew (u.heap.size + 1) M S 1 s1 s2 := by
  have := Lc.new (u.alloc o1) M S 1 s1 s2 66
  simp only [asz] at this
  exact this.kept ((Kp.refl _).alloc _).drew
theorem lbox2 (u : World) (M S : Nat) (s1 s2 : Value) (o1 o2 : Obj) : Lc (((u.alloc o1).alloc o2).alloc (.cells #[.int .i64 M, .int .i64 S, .int .i64 1, s1, s2] 66)).drew (u.heap.size + 1 + 1) M S 1 s1 s2 := by
  have := Lc.new ((u.alloc o1).alloc o2) M S 1 s1 s2 66
  simp only [asz] at this
  exact this.kept (Kp.refl _).drew
set_option maxRecDepth 100000 in
set_option maxHeartbeats 8000000 in
theorem rformat_any {w0 w : World} {b : Nat} {T : List Nat} {B : BS} (h : Dw w0 w b T B) (K : Kp w0 w) (n s : Int) {z : Nat} (ev : Ev B z) (pw : B.pw = none) (hgg : B.g + 10000 < 1000000) :
    Calls Tryz.prog 20 #[.pointer (some ⟨b, 0, none⟩), gV n s] w fun e w' => e = .returned (.int .i64 (fmE B n s)) ∧ Nz Dw w0 w w' b T (fmS B n s) := by
  have hgd := h.gd
  have hGo := rgood_any n s
  have HH := hid h
  have HK := hid K
  have HT : Hid (∀ t, t ∈ T → t < w.heap.size) := OL.dw.low h
  have HTn : Hid (∀ t, t ∈ T → w0.heap.size ≤ t) := OL.dw.new h
  have kA : Hid (Kp w (w.alloc (.cells #[.int .i64 n, .int .i64 s] 52))) := (Kp.refl w).alloc _
  have b0 : (w.alloc (.cells #[.int .i64 n, .int .i64 s] 52)).cell? ⟨w.heap.size, 0, none⟩ = some (.int .i64 n) := by rw [World.cell?_alloc_at _ _ _ _ rfl]; rfl
  have b1 : (w.alloc (.cells #[.int .i64 n, .int .i64 s] 52)).cell? ⟨w.heap.size, 1, none⟩ = some (.int .i64 s) := by rw [World.cell?_alloc_at _ _ _ _ rfl]; rfl
  obtain ⟨W, hW⟩ : ∃ W, W = w.alloc (.cells #[.int .i64 n, .int .i64 s] 52) := ⟨_, rfl⟩
  have HW := hid hW
  rw [← hW] at kA b0 b1
  have HB0 := hid b0
  have HB1 := hid b1
  cases e1 : gg n s with
  | false =>
    rw [e1] at hGo
    have eE : fmE B n s = 4 := if_neg (by rw [e1]; simp)
    have eS : fmS B n s = B := if_neg (by rw [eE]; omega)
    rw [eE, eS]
    unfold gV at hGo ⊢
    clear hW
    go_enter Tryz.func20, Tryz.ntmps20
    go_upto_region 1 with fail
    rw [← HW.out]
    clear HW
    go_wp2_with fail
    refine (hGo _).mono ?_; rintro e w1 ⟨rfl, k1⟩
    have HF : Hid (Kp w w1) := kA.out.trans k1
    clear k1 hGo
    go_wp2
    go_ret
    exact ⟨rfl, Nz.kp OL.dw (Nz.refl HH.out) HF.out⟩
  | true =>
    rw [e1] at hGo
    obtain ⟨g1, g2, g3, g4⟩ := (gg_iff n s).1 e1
    obtain ⟨N, rfl⟩ : ∃ N : Nat, n = N := ⟨n.toNat, by omega⟩
    obtain ⟨S, rfl⟩ : ∃ S : Nat, s = S := ⟨s.toNat, by omega⟩
    have HFt := hid (fun w' (k : Kp w w') => rfits_any (OL.dw.sp h (k.sp []) (fun _ _ h => by cases h)) N S e1)
    have hgo := hid (new_good e1)
    have HE : Hid (fmE B N S = if ftB B N S = true then (if (lvL 0 B.ms).length < B.ms.length then 20 else 0) else 2) := if_pos e1
    obtain ⟨E, eE⟩ : ∃ E, E = fmE B N S := ⟨_, rfl⟩
    have hbl : B.ms.length ≤ 32 := hgd.n2
    rw [← eE]
    have HEE : Hid (E = fmE B N S) := eE
    rw [← eE] at HE
    clear eE h K hW
    unfold gV at HFt hGo ⊢
    go_enter Tryz.func20, Tryz.ntmps20
    go_upto_region 1 with fail
    rw [← HW.out]
    clear HW
    go_wp2_with fail
    refine (hGo _).mono ?_; rintro e u1 ⟨rfl, k1⟩
    have K1 : Hid (Kp W u1) := k1
    have c0 := k1.held b0
    have c1 := k1.held b1
    have hF1 := HFt.out u1 (kA.out.trans k1)
    obtain ⟨D, hD⟩ : ∃ D, D = ftB B N S := ⟨_, rfl⟩
    rw [← hD] at hF1 HE
    have HDD := hid hD
    clear k1 hGo hD HFt b0 b1
    go_wp2_with fail
    refine hF1.mono ?_; rintro e u2 ⟨rfl, k2⟩
    have K2 : Hid (Kp W u2) := K1.out.trans k2
    have K02 : Hid (Kp w u2) := kA.out.trans K2.out
    have c0' := k2.held c0
    have c1' := k2.held c1
    clear k2 hF1 c0 c1
    have HB2 : Hid (Dw w0 u2 b T B) := OL.dw.sp HH.out (K02.out.sp []) (fun _ _ h => by cases h)
    cases D with
    | false =>
      have hE := HE.out
      rw [if_neg (by simp)] at hE
      have HS : Hid (fmS B N S = B) := if_neg (by rw [← HEE.out, hE]; omega)
      subst hE
      go_wp2
      go_ret
      exact ⟨rfl, by rw [HS.out]; exact Nz.kp OL.dw (Nz.refl HH.out) K02.out⟩
    | true =>
      have hE := HE.out
      rw [if_pos rfl] at hE
      have hE1 := hid hE
      clear hE HE
      have hL := dw_live HB2.out
      obtain ⟨M, hM⟩ : ∃ M, M = B.ms.length := ⟨_, rfl⟩
      obtain ⟨R, hR⟩ : ∃ R, R = (lvL 0 B.ms).length := ⟨_, rfl⟩
      have hR2 := lvL_len B.ms 0
      have HM := hid hM
      have HR := hid hR
      rw [← hM, ← hR] at hR2
      rw [← hM] at hbl
      clear hM hR
      go_wp2_with fail
      refine hL.mono ?_; rintro e u3 ⟨v, rfl, hv, k3⟩
      obtain ⟨va, vg, vc, rfl, vl, vm, _, _⟩ := hv
      rw [← HR.out] at vl ⊢
      have HB3 : Hid (Dw w0 u3 b T B) := OL.dw.sp HB2.out (k3.sp []) (fun _ _ h => by cases h)
      have K3 : Hid (Kp w u3) := K02.out.trans k3
      have c3 := k3.held c0'
      have c4 := k3.held c1'
      have rc : ∃ m cap, u3.cell? ⟨b, 0, none⟩ = some (.slice (some ⟨m, 0, none⟩) M cap) ∧ M ≤ cap ∧ cap ≤ 9223372036854775807 := by
        obtain ⟨m, cap, X, F, rfl, hx⟩ := HB3.out
        exact ⟨m, cap, by rw [HM.out]; exact hx.c0, by rw [HM.out]; exact hx.k1, hx.k2⟩
      obtain ⟨bm_, bc, rc0, rc1, rc2⟩ := rc
      have HN3 : Hid (Nz Dw w0 w u3 b T B) := ⟨T, HB3.out, K3.out.sp T, Nw.refl _ _⟩
      clear hL k3 c0' c1'
      by_cases hlt : R < M
      · have hE := hE1.out
        rw [if_pos (by rw [← HM.out, ← HR.out]; exact hlt)] at hE
        have HS : Hid (fmS B N S = B) := if_neg (by rw [← HEE.out, hE]; omega)
        subst hE
        go_wp2
        go_ret
        exact ⟨rfl, by rw [HS.out]; exact HN3.out⟩
      · have hE := hE1.out
        rw [if_neg (by rw [← HM.out, ← HR.out]; exact hlt)] at hE
        have HS : Hid (fmS B N S = fmB N S (puS (newL N S)) B) := by
          show fmS B N S = _
          unfold fmS
          rw [if_pos (by rw [← HEE.out]; exact hE), Int.toNat_natCast, Int.toNat_natCast]
        have hMN : M = N ∧ 100 + S ≤ z := by
          have h1 := HDD.out
          unfold ftB at h1
          have h2 := of_decide_eq_true h1.symm
          rw [← HM.out] at h2
          refine ⟨by omega, ?_⟩
          have := (ev 0 (by rw [← HM.out]; omega)).1
          omega
        have HMo : Hid (∀ i, i < M → MO (B.ms.getD i noM) z) := fun i hi => all_mo ev (by rw [← HM.out, ← HR.out]; exact hlt) i (by rw [← HM.out]; exact hi)
        obtain ⟨rfl, hz⟩ := hMN
        subst hE
        have HK3 : Hid (Kp w0 u3) := HK.out.trans K3.out
        have hm1 := fun W => run_make_row' (P := Tryz.prog) 61 3 (.int .i64 0) 8 Tryz.underlying61 eiI.i rfl .i64 .i64 M (by omega) (by omega) W
        clear HDD hE1
        have zr0 := fun (o1 o2 : Obj) => zrow0 u3 M S o1 o2 (by omega)
        have zr1 := fun (o1 o2 : Obj) => zrow1 u3 M S o1 o2 (by omega)
        have zr2 := fun (o1 o2 : Obj) => zrow2 u3 M S o1 o2 (by omega)
        have lc0 := fun (o1 o2 : Obj) (s1 s2 : Value) => lbox0 u3 M S s1 s2 o1 o2
        have lc1 := fun (o1 o2 : Obj) (s1 s2 : Value) => lbox1 u3 M S s1 s2 o1 o2
        have lc2 := fun (o1 o2 : Obj) (s1 s2 : Value) => lbox2 u3 M S s1 s2 o1 o2
        have HC : ∀ V, Kp u3 V → V.cell? ⟨w.heap.size, 0, none⟩ = some (.int .i64 (M : Int)) ∧ V.cell? ⟨w.heap.size, 1, none⟩ = some (.int .i64 (S : Int)) := fun V k => ⟨k.held c3, k.held c4⟩
        go_upto_region 10 with fail
        go_cut [7] from 37 (fun p V => ∃ (lb i1 i2 : Nat), p = .pointer (some ⟨lb, 0, none⟩) ∧ Lc V lb (M : Int) (S : Int) 1 (.slice (some ⟨i1, 0, none⟩) M M) (.slice (some ⟨i2, 0, none⟩) M M) ∧ Nl V (.slice (some ⟨i1, 0, none⟩) M M) (newL M S).sts ∧ Nl V (.slice (some ⟨i2, 0, none⟩) M M) (newL M S).sts ∧ Kp u3 V)
        case first =>
          go_region_held3 (fun V => V.cell? ⟨w.heap.size, 0, none⟩ = some (.int .i64 (M : Int)) ∧ V.cell? ⟨w.heap.size, 1, none⟩ = some (.int .i64 (S : Int))) (exact HC _ (by repeat (first | exact Kp.refl _ | refine Kp.drew ?_ | refine Kp.alloc ?_ _))) (fail)
          all_goals (
            go_wp2_with fail
            go_meet
            apply Exists.intro
            apply Exists.intro
            apply Exists.intro
            refine ⟨rfl, ?L, ?N1, ?N2, ?K4⟩
            case L => first | exact lc0 _ _ _ _ | exact lc1 _ _ _ _ | exact lc2 _ _ _ _
            case N1 => first | exact zr0 _ _ | exact zr1 _ _ | exact zr2 _ _
            case N2 => first | exact zr0 _ _ | exact zr1 _ _ | exact zr2 _ _
            case K4 => repeat (first | exact Kp.refl _ | refine Kp.drew ?_ | refine Kp.alloc ?_ _))
        case rest =>
          obtain ⟨lb, i1, i2, rfl, lcb, nl1, nl2, k34⟩ := hcut
          rename World => VV
          obtain ⟨d0, d1, d2, d3, d4⟩ := lcb
          go_wp2_with fail
          refine (rput_any (newL M S) _ _ _ nl1 nl2).mono ?_; rintro e u4 ⟨rfl, k4⟩
          have K4 : Hid (Kp u3 u4) := k34.trans k4
          clear k4 HC k34 nl1 nl2 d0 d1 d2 d3 d4
          have hs34 := K4.out.size
          have hO : Hid (OR ((u4.alloc (.cells (madeCells #[.int .u8 0] 64) 5)).alloc (.cells #[.int .i64 0, .int .i64 2, .int .i64 3] 3)) u4.heap.size 3 (.slice (some ⟨u4.heap.size + 1, 0, none⟩) 3 3) (fmK 0)) := by
            have := World.ownsRow_lit (base := u4.heap.size) (e := 3) (size := 1) (u4.alloc (.cells (madeCells #[.int .u8 0] 64) 5)) #[.int .i64 0, .int .i64 2, .int .i64 3] 3 (by simp) (by unfold maxLen; omega) rfl
            simp only [asz] at this
            exact this
          have kO : Hid (Kp u4 ((u4.alloc (.cells (madeCells #[.int .u8 0] 64) 5)).alloc (.cells #[.int .i64 0, .int .i64 2, .int .i64 3] 3))) := ((Kp.refl u4).alloc _).alloc _
          have hmk : ∀ W : World, (Instr.makeSlice 37 (.int .i64 64) (.int .i64 64)).run Tryz.prog W = .ok (.slice (some ⟨W.heap.size, 0, none⟩) 64 64) (W.alloc (.cells (madeCells #[.int .u8 0] 64) 5)) := fun W => run_make_row' (P := Tryz.prog) 37 5 (.int .u8 0) 1 Tryz.underlying37 info_u8 rfl .i64 .i64 64 (by omega) (by omega) W
          have hcv : ∀ W : World, (convert 37 9 (.slice (some ⟨W.heap.size, 0, none⟩) 64 64)).run Tryz.prog (W.alloc (.cells (madeCells #[.int .u8 0] 64) 5)) = .ok (.string z64) (W.alloc (.cells (madeCells #[.int .u8 0] 64) 5)) := fun W => conv_of _ _ 64 (fun _ => 0) (fun i hi => by rw [World.cell?_alloc_at _ _ _ _ rfl]; simp [madeCells, hi, Nat.mod_one])
          have HP : Hid (∃ P, P = puS (newL M S)) := ⟨_, rfl⟩
          obtain ⟨P, hP⟩ : ∃ P, P = puS (newL M S) := ⟨_, rfl⟩
          rw [← hP]
          have HPP := hid hP
          obtain ⟨PE, hPE⟩ : ∃ P, P = puE (newL M S) := ⟨_, rfl⟩
          rw [← hPE]
          clear hP hPE HP
          go_wp2_with fail
          go_loopw [11, 12] (fun v i wr => ∃ k : Nat, k ≤ S ∧ i = .int .i64 k ∧ Hid (OR wr u4.heap.size 3 v (fmK k)) ∧ Hid (Kp u4 wr)) (fun _ i _ => S - (intOf i).toNat)
          case atStart => exact ⟨0, by omega, by go_num, hO, kO⟩
          case round =>
            clear hO kO hmk hcv
            obtain ⟨k, hk, rfl, HO, HKk⟩ := hrel
            have cS := (K4.out.trans HKk.out).held c4
            by_cases hltk : k < S
            · have hs1 := HKk.out.size
              have HL := fmK_len k
              go_wp2_with (at_builtin; refine wpList_append_or rfl _ _ 61 3 (.int .i64 0) 8 Tryz.underlying61 info_int rfl (by omega) rfl u4.heap.size _ _ rfl (HO.out.kp ((Kp.refl wr).alloc (.cells #[.int .i64 (100 + (k : Int))] 3))) (.int .i64 (100 + (k : Int))) rfl _ rfl (by rw [World.cell?_alloc_at _ _ _ _ rfl]; rfl) (by omega) (by simp; omega) ?_)
              intro v' w3 ho3 hg3
              have HO3 : Hid (OR w3 u4.heap.size 3 v' (fmK (k + 1))) := by rw [fmK_more]; exact ho3
              have HK3' : Hid (Kp u4 w3) := (HKk.out.alloc _).grown hg3 (fun q hq => (World.ownsRow.lt HO.out q hq).1)
              clear ho3 hg3 HO HKk cS
              go_wp2
              go_roundw
              case rel => exact ⟨k + 1, by omega, by go_num, HO3, HK3'⟩
              case measure => simp [intOf]; omega
            · have ek : k = S := by omega
              rw [ek] at HO
              clear ek
              rename World => V
              have K3V : Hid (Kp u3 V) := K4.out.trans HKk.out
              obtain ⟨pa, pg, pc, rfl, pl1, pl2, pl3, pl4⟩ := HO.out.shape
              rw [fmK_len] at pl1 pl3 pl4 ⊢
              obtain ⟨Q, hQ⟩ : ∃ Q, Q = 3 + S := ⟨_, rfl⟩
              rw [← hQ] at pl1 pl3 pl4 ⊢
              obtain ⟨ea, pb1, pb2⟩ := pl3 (by omega)
              subst ea
              have Hv : Hid (∀ j, j < Q → V.cell? ⟨pg, j, none⟩ = some (.int .i64 ((fmL S).getD j 0))) := fun j hj => by
                rw [pl4 j hj]
                unfold fmK
                have : j < (fmL S).length := by rw [fmL_len]; omega
                simp [this]
              have hpT : Hid (pg ∉ T) := fun ht => by
                have := HT.out pg ht
                have := K3.out.size
                omega
              have HBV : Hid (Dw w0 V b T B) := OL.dw.sp HB3.out (K3V.out.sp []) (fun _ _ h => by cases h)
              have HKV : Hid (Kp w0 V) := HK3.out.trans K3V.out
              have KwV : Hid (Kp w V) := K3.out.trans K3V.out
              clear HO HKk pl3 pl4
              have HQQ := hid hQ
              clear hQ
              go_wp2_with fail
              go_loopw [13] (fun j wr => ∃ k : Nat, k ≤ M ∧ j = .int .i64 k ∧ Hid (Nz Dw w0 V wr b T ((List.range k).foldl (bgB S P) B))) (fun j _ => M - (intOf j).toNat)
              case atStart => exact ⟨0, by omega, by go_num, Nz.refl HBV.out⟩
              case round =>
                obtain ⟨k2, hk2, rfl, HZ⟩ := hrel
                obtain ⟨ms, m1, m2, m3⟩ := fm_B (s := S) (p := P) pw k2 (by rw [← HM.out]; omega)
                have HKr : Hid (Kp w0 wr) := HZ.out.below OL.dw HBV.out HKV.out
                obtain ⟨C, hC⟩ : ∃ C, C = (List.range k2).foldl (bgB S P) B := ⟨_, rfl⟩
                have HCC := hid hC
                rw [← hC] at HZ m1
                have hkS : k2 * (S + 5) ≤ 32 * 69 := Nat.mul_le_mul (by omega) (by omega)
                have HCf : Hid (C.pw = none ∧ C.ms.length = M ∧ C.g + 1000 < 1000000 ∧ (k2 < M → MO (C.ms.getD k2 noM) z)) := by
                  rw [m1]
                  refine ⟨rfl, by show ms.length = M; rw [m2, HM.out], by show B.g + k2 * (S + 5) + 1000 < 1000000; omega, fun hh => ?_⟩
                  show MO (ms.getD k2 noM) z
                  rw [m3 k2, if_neg (by omega)]
                  exact HMo.out k2 hh
                have rcx : ∃ m cap, wr.cell? ⟨b, 0, none⟩ = some (.slice (some ⟨m, 0, none⟩) M cap) ∧ M ≤ cap ∧ cap ≤ 9223372036854775807 := by
                  obtain ⟨T', hB, hS, hNw⟩ := HZ.out
                  obtain ⟨m, cap, X, F, hTT, hx⟩ := hB
                  have h1 := hx.c0
                  have h2 := hx.k1
                  rw [HCf.out.2.1] at h1 h2
                  exact ⟨m, cap, h1, h2, hx.k2⟩
                obtain ⟨bm2, bc2, rcx0, rcx1, rcx2⟩ := rcx
                clear hC m1 m2 m3
                by_cases hltm : k2 < M
                · rename World => Wk
                  go_wp2_with fail
                  go_loopw [14] (fun j wr => ∃ i : Nat, i ≤ Q ∧ j = .int .i64 i ∧ Hid (Nz Dw w0 V wr b T (wsB k2 ((fmL S).take i) C))) (fun j _ => Q - (intOf j).toNat)
                  case atStart => exact ⟨0, by omega, by go_num, HZ⟩
                  case round =>
                    clear HZ
                    obtain ⟨i, hi, rfl, HZi⟩ := hrel
                    have HKi : Hid (Kp w0 wr) := HZi.out.below OL.dw HBV.out HKV.out
                    have hfC : fdE C (k2 : Int) = 0 := if_pos ⟨by omega, by rw [HCf.out.2.1]; omega⟩
                    have hmoC : MO (bm C (k2 : Int)) z := by unfold bm; rw [Int.toNat_natCast]; exact HCf.out.2.2.2 hltm
                    by_cases hlti : i < Q
                    · have cv : wr.cell? ⟨pg, i, none⟩ = some (.int .i64 ((fmL S).getD i 0)) := by
                        obtain ⟨T', _, s, _⟩ := HZi.out
                        exact s.held (Hv.out i hlti) hpT.out
                      have hin := fm_in (S := S) (a := (fmL S).getD i 0) (by
                        rw [List.getD_eq_getElem?_getD, List.getElem?_eq_getElem (by rw [fmL_len]; have := HQQ.out; omega)]
                        exact List.getElem_mem _)
                      have hst := ws_step (l := (fmL S).take i) (a := (fmL S).getD i 0) HCf.out.1 hfC hmoC (by omega) (by omega)
                      obtain ⟨y, ey⟩ : ∃ y, y = (fmL S).getD i 0 := ⟨_, rfl⟩
                      rw [← ey] at cv hin hst
                      obtain ⟨T', hB, hS, hN⟩ := HZi.out
                      have hgk : (wsB k2 ((fmL S).take i) C).g < 1000000 := by rw [hst.2.2, List.length_take, fmL_len]; have := HCf.out.2.2.1; have := HQQ.out; omega
                      have hWr := dw_write hB HKi.out k2 y z64 hgk
                      rw [hst.1, hst.2.1] at hWr
                      have etk : (fmL S).take i ++ [y] = (fmL S).take (i + 1) := by
                        rw [ey, List.take_add_one, List.getElem?_eq_getElem (by rw [fmL_len]; have := HQQ.out; omega), List.getD_eq_getElem?_getD, List.getElem?_eq_getElem (by rw [fmL_len]; have := HQQ.out; omega)]
                        rfl
                      rw [etk] at hWr
                      have HZ0 : Hid (Sp T V wr ∧ Nw V T T') := ⟨hS, hN⟩
                      have hcap : i < pc := by omega
                      clear HZi hst hgk hin ey etk hB hS hN hfC hmoC
                      go_wp2_with fail
                      refine hWr.mono ?_; rintro e w1 ⟨rfl, n1⟩
                      have HZ1 : Hid (Nz Dw w0 V w1 b T (wsB k2 ((fmL S).take (i + 1)) C)) := by
                        obtain ⟨T2, o2, s2, w2⟩ := n1
                        exact ⟨T2, o2, HZ0.out.1.then s2 HZ0.out.2, HZ0.out.2.trans w2 HZ0.out.1.size⟩
                      clear n1 hWr HZ0 cv
                      go_wp2
                      go_roundw
                      case rel => exact ⟨i + 1, by omega, by go_num, HZ1⟩
                      case measure => simp [intOf]; omega
                    · have ei : i = Q := by omega
                      rw [ei, List.take_of_length_le (by rw [fmL_len]; have := HQQ.out; omega)] at HZi
                      clear ei
                      have hbg := bg_step (s := S) (p := P) HCf.out.1 (i := k2) (by rw [HCf.out.2.1]; exact hltm) (HCf.out.2.2.2 hltm) (by omega) (by rw [HPP.out]; exact pu_size hgo.out)
                      have HBG := hid hbg
                      obtain ⟨T', hB, hS, hN⟩ := HZi.out
                      have hw1 := dw_write hB HKi.out k2 1 P (by have h1 := hbg.2.2; rw [(opS_len _ _ _).2] at h1; have := HCf.out.2.2.1; omega)
                      rw [hbg.1] at hw1
                      have HBb := hid hB
                      have HSb : Hid (Sp T V wr ∧ Nw V T T') := ⟨hS, hN⟩
                      clear hbg hB hS hN HZi hfC hmoC
                      go_wp2_with fail
                      refine hw1.mono ?_; rintro e w2 ⟨rfl, n2⟩
                      have HKc : Hid (Kp w0 w2) := n2.below OL.dw HBb.out HKi.out
                      obtain ⟨T2, o2, s2, nn2⟩ := n2
                      have hfl := dw_flush o2 HKc.out k2 (by rw [HBG.out.2.2]; have := HCf.out.2.2.1; omega)
                      rw [HBG.out.2.1] at hfl
                      have HSc : Hid (Sp T V w2 ∧ Nw V T T2) := ⟨HSb.out.1.then s2 HSb.out.2, HSb.out.2.trans nn2 HSb.out.1.size⟩
                      clear hw1 o2 s2 nn2 HSb HBb
                      go_wp2_with fail
                      refine hfl.mono ?_; rintro e w3 ⟨rfl, n3⟩
                      have HF : Hid (Nz Dw w0 V w3 b T ((List.range (k2 + 1)).foldl (bgB S P) B)) := by
                        obtain ⟨T3, o3, s3, nn3⟩ := n3
                        have e5 : (List.range (k2 + 1)).foldl (bgB S P) B = bgB S P C k2 := by rw [List.range_succ, List.foldl_append, HCC.out]; rfl
                        show Nz Dw w0 V w3 b T _
                        rw [e5]
                        exact ⟨T3, o3, HSc.out.1.then s3 HSc.out.2, HSc.out.2.trans nn3 HSc.out.1.size⟩
                      clear n3 hfl HSc
                      go_wp2
                      go_roundw
                      case rel => exact ⟨k2 + 1, by omega, by go_num, HF⟩
                      case measure => simp [intOf]; omega
                · have ek2 : k2 = M := by omega
                  have HF : Hid (Nz Dw w0 w wr b T (fmS B M S)) := by
                    have h1 := HZ.out
                    rw [HCC.out, ek2] at h1
                    obtain ⟨T3, o3, s3, nn3⟩ := h1
                    show Nz Dw w0 w wr b T (fmS B M S)
                    rw [HS.out, ← HPP.out]
                    exact ⟨T3, o3, (KwV.out.sp T).trans s3, fun t ht => (nn3 t ht).imp id (fun h => Nat.le_trans KwV.out.size h)⟩
                  clear HZ ek2
                  go_wp2
                  go_ret
                  exact ⟨rfl, HF.out⟩

end Go.Proofs.YtinpkfdmellleaaGreat
