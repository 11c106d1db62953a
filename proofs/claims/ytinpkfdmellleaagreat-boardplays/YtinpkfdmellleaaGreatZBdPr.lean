/-
  A pair of boards, or of none, and its bays; the laws' open, whatever it answers. Conditions: that the two bays lie in memory, apart.
-/
import Derived.Test.YtinpkfdmellleaaGreatZBdAct
import Derived.Test.YtinpkfdmellleaaGreatZBdRNext
namespace Go.Proofs.YtinpkfdmellleaaGreat
open Go.RowKit Plain
set_option linter.unusedVariables false

/-- a pair and its two bays, whatever its boards are. -/
structure Pb (w0 w : World) (v b r : Nat) (P R : List Nat) (B B2 : BS) (s1 s3 : Value) : Prop where
  c0 : w.cell? ⟨v, 0, none⟩ = some (.pointer (some ⟨b, 0, none⟩))
  c1 : w.cell? ⟨v, 1, none⟩ = some s1
  c2 : w.cell? ⟨v, 2, none⟩ = some (.pointer (some ⟨r, 0, none⟩))
  c3 : w.cell? ⟨v, 3, none⟩ = some s3
  fz : ∀ o, w.frozen? ⟨v, o, none⟩ = false
  lv : w0.heap.size ≤ v
  hB : Bw w0 w b P B
  hD : Dw w0 w r R B2
  dj : ∀ t, t ∈ P → t ∉ R
  nv : v ∉ P
  nw : v ∉ R
theorem Pd.pb {w0 w : World} {v x b r y : Nat} {T R : List Nat} {K K2 : KS} {sv mv su mu : Value} (h : Pd w0 w v x b r y T R K K2 sv mv su mu) : Pb w0 w v b r T R K.b K2.b (.pointer (some ⟨x, 0, none⟩)) (.pointer (some ⟨y, 0, none⟩)) :=
  ⟨h.c0, h.c1, h.c2, h.c3, h.fz, h.lv, h.kx.bay, h.ky.bay, fun t ht hm => h.dj t (List.mem_cons_of_mem _ ht) (List.mem_cons_of_mem _ hm), fun hm => h.nv (List.mem_cons_of_mem _ hm), fun hm => h.nw (List.mem_cons_of_mem _ hm)⟩
theorem Pb.vl {w0 w : World} {v b r : Nat} {P R : List Nat} {B B2 : BS} {s1 s3 : Value} (h : Pb w0 w v b r P R B B2 s1 s3) : v < w.heap.size := World.block_lt_of_cell? _ _ h.c0
theorem Pb.kp {w0 w w' : World} {v b r : Nat} {P R : List Nat} {B B2 : BS} {s1 s3 : Value} (h : Pb w0 w v b r P R B B2 s1 s3) (k : Kp w w') : Pb w0 w' v b r P R B B2 s1 s3 :=
  ⟨k.held h.c0, k.held h.c1, k.held h.c2, k.held h.c3, fun o => ((k.sp []).frozen h.vl (by simp) o).trans (h.fz o), h.lv, OL.bw.sp h.hB (k.sp []) (fun _ _ h => by cases h), OL.dw.sp h.hD (k.sp []) (fun _ _ h => by cases h), h.dj, h.nv, h.nw⟩
/-- behind a call on the program's bay. -/
theorem Pb.one {w0 w w' : World} {v b r : Nat} {P R : List Nat} {B B' B2 : BS} {s1 s3 : Value} (h : Pb w0 w v b r P R B B2 s1 s3) (n : Nz Bw w0 w w' b P B') : ∃ P', Pb w0 w' v b r P' R B' B2 s1 s3 ∧ Sp P w w' ∧ Nw w P P' := by
  obtain ⟨P', h1, h2, h3⟩ := n
  have lR := OL.dw.low h.hD
  refine ⟨P', ⟨h2.held h.c0 h.nv, h2.held h.c1 h.nv, h2.held h.c2 h.nv, h2.held h.c3 h.nv, fun o => (h2.frozen h.vl h.nv o).trans (h.fz o), h.lv, h1, OL.dw.sp h.hD h2 (fun t ht hm => h.dj t hm ht), fun t ht hm => ?_, nw_nt h3 h.vl h.nv, h.nw⟩, h2, h3⟩
  rcases h3 t ht with e | e
  · exact h.dj t e hm
  · have := lR t hm; omega
/-- behind a call on the document's bay. -/
theorem Pb.two {w0 w w' : World} {v b r : Nat} {P R : List Nat} {B B2 B' : BS} {s1 s3 : Value} (h : Pb w0 w v b r P R B B2 s1 s3) (n : Nz Dw w0 w w' r R B') : ∃ R', Pb w0 w' v b r P R' B B' s1 s3 ∧ Sp R w w' ∧ Nw w R R' := by
  obtain ⟨R', h1, h2, h3⟩ := n
  have lP := OL.bw.low h.hB
  refine ⟨R', ⟨h2.held h.c0 h.nw, h2.held h.c1 h.nw, h2.held h.c2 h.nw, h2.held h.c3 h.nw, fun o => (h2.frozen h.vl h.nw o).trans (h.fz o), h.lv, OL.bw.sp h.hB h2 (fun t ht hm => h.dj t ht hm), h1, fun t ht hm => ?_, h.nv, nw_nt h3 h.vl h.nw⟩, h2, h3⟩
  rcases h3 t hm with e | e
  · exact h.dj t ht e
  · have := lP t ht; omega
/-- both bays moved on, the program's first. -/
def Mv (w0 w w2 : World) (b r : Nat) (P R : List Nat) (B B2 : BS) : Prop := ∃ w1, Nz Bw w0 w w1 b P B ∧ Nz Dw w0 w1 w2 r R B2
theorem Pb.mv {w0 w w2 : World} {v b r : Nat} {P R : List Nat} {B B2 B' B2' : BS} {s1 s3 : Value} (h : Pb w0 w v b r P R B B2 s1 s3) (m : Mv w0 w w2 b r P R B' B2') : ∃ P' R', Pb w0 w2 v b r P' R' B' B2' s1 s3 := by
  obtain ⟨w1, n1, n2⟩ := m
  obtain ⟨P', h1, _, _⟩ := h.one n1
  obtain ⟨R', h2, _, _⟩ := h1.two n2
  exact ⟨P', R', h2⟩
theorem Pd.bay1 {w0 w w' : World} {v x b r y : Nat} {T R : List Nat} {K K2 : KS} {B' : BS} {sv mv su mu : Value} (h : Pd w0 w v x b r y T R K K2 sv mv su mu) (n : Nz Bw w0 w w' b T B') : ∃ T', Pd w0 w' v x b r y T' R ⟨B', K.l⟩ K2 sv mv su mu := by
  obtain ⟨T', h1, h2, h3⟩ := n
  have hvT : v ∉ T := fun hm => h.nv (List.mem_cons_of_mem _ hm)
  have lR : ∀ t, t ∈ y :: R → t < w.heap.size := fun t ht => by
    rcases List.mem_cons.1 ht with e | e
    · rw [e]; exact h.ky.hx
    · exact OL.dw.low h.ky.bay t e
  have hyT : ∀ t, t ∈ y :: R → t ∉ T := fun t ht hm => h.dj t (List.mem_cons_of_mem _ hm) ht
  refine ⟨T', h2.held h.c0 hvT, h2.held h.c1 hvT, h2.held h.c2 hvT, h2.held h.c3 hvT, fun o => (h2.frozen h.vl hvT o).trans (h.fz o), h.lv, h.kx.bayX h1 h2 h3, h.ky.sp h2 hyT (fun q hq hm => (h.qb q (.inl hq)).2 (List.mem_cons_of_mem _ hm)) (fun q hq hm => (h.qb q (.inr hq)).2 (List.mem_cons_of_mem _ hm)), fun t ht hm => ?_, nw_nc h3 h.vl h.nv, h.nw, h.qa, fun q hq => ⟨(h.qb q hq).1, nw_nc h3 (hq.elim (fun e => (h.ky.q1 q e).2) (fun e => (h.ky.q2 q e).2)) (h.qb q hq).2⟩⟩
  rcases nw_cons (x := x) h3 t ht with e | e
  · exact h.dj t e hm
  · have := lR t hm; omega
theorem Pd.bay2 {w0 w w' : World} {v x b r y : Nat} {T R : List Nat} {K K2 : KS} {B' : BS} {sv mv su mu : Value} (h : Pd w0 w v x b r y T R K K2 sv mv su mu) (n : Nz Dw w0 w w' r R B') : ∃ R', Pd w0 w' v x b r y T R' K ⟨B', K2.l⟩ sv mv su mu := by
  obtain ⟨R', h1, h2, h3⟩ := n
  have hvR : v ∉ R := fun hm => h.nw (List.mem_cons_of_mem _ hm)
  have lT : ∀ t, t ∈ x :: T → t < w.heap.size := fun t ht => by
    rcases List.mem_cons.1 ht with e | e
    · rw [e]; exact h.kx.hx
    · exact OL.bw.low h.kx.bay t e
  have hxR : ∀ t, t ∈ x :: T → t ∉ R := fun t ht hm => h.dj t ht (List.mem_cons_of_mem _ hm)
  refine ⟨R', h2.held h.c0 hvR, h2.held h.c1 hvR, h2.held h.c2 hvR, h2.held h.c3 hvR, fun o => (h2.frozen h.vl hvR o).trans (h.fz o), h.lv, h.kx.sp h2 hxR (fun q hq hm => (h.qa q (.inl hq)).2 (List.mem_cons_of_mem _ hm)) (fun q hq hm => (h.qa q (.inr hq)).2 (List.mem_cons_of_mem _ hm)), h.ky.bayX h1 h2 h3, fun t ht hm => ?_, h.nv, nw_nc h3 h.vl h.nw, fun q hq => ⟨(h.qa q hq).1, nw_nc h3 (hq.elim (fun e => (h.kx.q1 q e).2) (fun e => (h.kx.q2 q e).2)) (h.qa q hq).2⟩, h.qb⟩
  rcases nw_cons (x := y) h3 t hm with e | e
  · exact h.dj t ht e
  · have := lT t ht; omega
theorem Pd.mv {w0 w w2 : World} {v x b r y : Nat} {T R : List Nat} {K K2 : KS} {B' B2' : BS} {sv mv su mu : Value} (h : Pd w0 w v x b r y T R K K2 sv mv su mu) (m : Mv w0 w w2 b r T R B' B2') : ∃ T' R', Pd w0 w2 v x b r y T' R' ⟨B', K.l⟩ ⟨B2', K2.l⟩ sv mv su mu := by
  obtain ⟨w1, n1, n2⟩ := m
  obtain ⟨P', h1⟩ := h.bay1 n1
  obtain ⟨R', h2⟩ := h1.bay2 n2
  exact ⟨P', R', h2⟩
theorem Mv.below {w0 w w2 : World} {v b r : Nat} {P R : List Nat} {B B2 B' B2' : BS} {s1 s3 : Value} (m : Mv w0 w w2 b r P R B' B2') (h : Pb w0 w v b r P R B B2 s1 s3) (k : Kp w0 w) : Kp w0 w2 := by
  obtain ⟨w1, n1, n2⟩ := m
  obtain ⟨P', h1, _, _⟩ := h.one n1
  exact n2.below OL.dw h1.hD (n1.below OL.bw h.hB k)
/-- a pair of boards in one state, or of none. -/
def Pr (w0 w : World) (v b r : Nat) (K : KS) (o : Bool) : Prop := if o = true then ∃ x y T R sv mv su mu, Pd w0 w v x b r y T R K K sv mv su mu else ∃ P R, Pb w0 w v b r P R K.b K.b (.pointer none) (.pointer none)
theorem Pr.kp {w0 w w' : World} {v b r : Nat} {K : KS} {o : Bool} (h : Pr w0 w v b r K o) (k : Kp w w') : Pr w0 w' v b r K o := by
  unfold Pr at h ⊢
  cases o with
  | true =>
    rw [if_pos rfl] at h ⊢
    obtain ⟨x, y, T, R, sv, mv, su, mu, p⟩ := h
    exact ⟨x, y, T, R, sv, mv, su, mu, p.kp k⟩
  | false =>
    rw [if_neg (by simp)] at h ⊢
    obtain ⟨P, R, p⟩ := h
    exact ⟨P, R, p.kp k⟩
theorem Pr.pb {w0 w : World} {v b r : Nat} {K : KS} {o : Bool} (h : Pr w0 w v b r K o) : ∃ P R s1 s3, Pb w0 w v b r P R K.b K.b s1 s3 := by
  unfold Pr at h
  cases o with
  | true =>
    rw [if_pos rfl] at h
    obtain ⟨x, y, T, R, sv, mv, su, mu, p⟩ := h
    exact ⟨T, R, _, _, p.pb⟩
  | false =>
    rw [if_neg (by simp)] at h
    obtain ⟨P, R, p⟩ := h
    exact ⟨P, R, _, _, p⟩

set_option maxRecDepth 100000 in
set_option maxHeartbeats 8000000 in
theorem lopen_n {w0 w : World} {v b r : Nat} {P R : List Nat} {B : BS} {z : Nat} {s1 s3 : Value} (h : Pb w0 w v b r P R B B s1 s3) (K : Kp w0 w) (ev : Ev B z) (hep : (opnL B).ep < 9007199254740992) (hg : B.g + 100 < 1000000) (hE : opnE B ≠ 0) :
    Calls Tryz.prog 39 #[.pointer (some ⟨v, 0, none⟩)] w fun e w' => e = .returned (.bool true) ∧ (∃ P' R', Pb w0 w' v b r P' R' (opnK B).b (opnK B).b (.pointer none) (.pointer none)) ∧ Kp w0 w' := by
  have hOp := open_any h.hB K ev hep hg
  have HP := hid h
  have HK := hid K
  have Hep := hid hep
  have HEE := hid hE
  obtain ⟨E, eE⟩ : ∃ E, E = opnE B := ⟨_, rfl⟩
  rw [← eE] at hOp
  have HE := hid eE
  have v0 := h.c0
  clear h K hep hE eE ev
  go_enter Tryz.func39, Tryz.ntmps39
  go_wp2_with fail
  refine hOp.mono ?_; rintro e w1 ⟨p, rfl, _, hx⟩
  obtain ⟨rfl, n1⟩ := hx (by rw [HE.out]; exact HEE.out)
  have K1 : Hid (Kp w0 w1) := n1.below OL.bw HP.out.hB HK.out
  obtain ⟨P1, p1, _, _⟩ := HP.out.one n1
  have HP1 := hid p1
  have hRO := ropen_any p1.hD K1.out Hep.out hg
  rw [← HE.out] at hRO
  have c2 := p1.c2
  clear hOp n1 hx p1 v0
  go_wp2_with fail
  refine hRO.mono ?_; rintro e w2 ⟨p, rfl, _, hy⟩
  obtain ⟨rfl, n2⟩ := hy (by rw [HE.out]; exact HEE.out)
  have K2 : Hid (Kp w0 w2) := n2.below OL.dw HP1.out.hD K1.out
  obtain ⟨R2, p2, _, _⟩ := HP1.out.two n2
  have HP2 := hid p2
  have hEE : (E == E) = true := by simp
  have d1 := p2.c1
  have d3 := p2.c3
  have d0 := p2.c0
  have d2 := p2.c2
  have fz2 := p2.fz
  have S2 : Sp [v] w2 ((w2.setCell ⟨v, 1, none⟩ (.pointer none)).setCell ⟨v, 3, none⟩ (.pointer none)) := ((Sp.refl _ _).set v 1 (by simp) _).set v 3 (by simp) _
  have HC : Hid (Pb w0 ((w2.setCell ⟨v, 1, none⟩ (.pointer none)).setCell ⟨v, 3, none⟩ (.pointer none)) v b r P1 R2 (opnK B).b (opnK B).b (.pointer none) (.pointer none)) := by
    refine ⟨?_, ?_, ?_, ?_, fun o => ?_, p2.lv, OL.bw.sp p2.hB S2 (fun t ht hm => p2.nv (by rw [← List.mem_singleton.1 hm]; exact ht)), OL.dw.sp p2.hD S2 (fun t ht hm => p2.nw (by rw [← List.mem_singleton.1 hm]; exact ht)), p2.dj, p2.nv, p2.nw⟩
    · rw [set_other _ _ _ _ _ (by omega), set_other _ _ _ _ _ (by omega)]; exact d0
    · rw [set_other _ _ _ _ _ (by omega)]; exact set_same _ d1
    · rw [set_other _ _ _ _ _ (by omega), set_other _ _ _ _ _ (by omega)]; exact d2
    · exact set_same _ ((set_other _ _ _ _ _ (by omega)).trans d3)
    · rw [World.frozen?_setCell, World.frozen?_setCell]; exact fz2 o
  have HKF : Hid (Kp w0 ((w2.setCell ⟨v, 1, none⟩ (.pointer none)).setCell ⟨v, 3, none⟩ (.pointer none))) := Sp.kp K2.out S2 (fun t ht => by rw [List.mem_singleton.1 ht]; exact p2.lv)
  clear hRO hy n2 p2 d0 d2 c2 S2
  go_wp2
  go_ret
  exact ⟨rfl, ⟨P1, R2, HC.out⟩, HKF.out⟩
theorem lopen_g {w0 w : World} {v b r : Nat} {P R : List Nat} {B : BS} {z : Nat} {s1 s3 : Value} (h : Pb w0 w v b r P R B B s1 s3) (K : Kp w0 w) (ev : Ev B z) (hep : (opnL B).ep < 9007199254740992) (hg : B.g + 100 < 1000000) :
    Calls Tryz.prog 39 #[.pointer (some ⟨v, 0, none⟩)] w fun e w' => e = .returned (.bool true) ∧ Pr w0 w' v b r (opnK B) (decide (opnE B = 0)) ∧ Kp w0 w' := by
  by_cases hE : opnE B = 0
  · rw [decide_eq_true hE]
    exact (lopen_p h.hB h.hD h.dj K h.c0 h.c1 h.c2 h.c3 h.fz h.nv h.nw h.lv ev hep hg hE).mono fun e w' ⟨h1, h2, h3⟩ => ⟨h1, by unfold Pr; rw [if_pos rfl]; exact h2, h3⟩
  · rw [decide_eq_false hE]
    exact (lopen_n h K ev hep hg hE).mono fun e w' ⟨h1, h2, h3⟩ => ⟨h1, by unfold Pr; rw [if_neg (by simp)]; exact h2, h3⟩

end Go.Proofs.YtinpkfdmellleaaGreat
