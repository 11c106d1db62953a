/-
  A board in a pair as the laws go on with it; what each call leaves of its epoch, where the power doesn't fail. Conditions: that it lies in memory.
-/
import Derived.Test.YtinpkfdmellleaaGreatZBeg
namespace Go.Proofs.YtinpkfdmellleaaGreat
open Go.RowKit Plain
set_option linter.unusedVariables false

structure PY (w0 w : World) (v x b : Nat) (T : List Nat) (K : KS) (sv mv : Value) : Prop where
  c0 : w.cell? ⟨v, 0, none⟩ = some (.pointer (some ⟨b, 0, none⟩))
  c1 : w.cell? ⟨v, 1, none⟩ = some (.pointer (some ⟨x, 0, none⟩))
  fz : ∀ o, w.frozen? ⟨v, o, none⟩ = false
  kx : KX w0 w x b T K sv mv
  nv : v ∉ x :: T
  lv : w0.heap.size ≤ v
theorem PX.py {w0 w : World} {v x b r y : Nat} {T : List Nat} {K : KS} {sv mv : Value} (h : PX w0 w v x b r y T K sv mv) : PY w0 w v x b T K sv mv := ⟨h.c0, h.c1, h.fz, h.kx, h.nv, h.lv⟩
theorem PY.lt {w0 w : World} {v x b : Nat} {T : List Nat} {K : KS} {sv mv : Value} (h : PY w0 w v x b T K sv mv) : v < w.heap.size := World.block_lt_of_cell? _ _ h.c0
theorem PY.kp {w0 w w' : World} {v x b : Nat} {T : List Nat} {K : KS} {sv mv : Value} (h : PY w0 w v x b T K sv mv) (k : Kp w w') : PY w0 w' v x b T K sv mv :=
  ⟨k.held h.c0, k.held h.c1, fun o => ((k.sp []).frozen h.lt (by simp) o).trans (h.fz o), h.kx.kp k, h.nv, h.lv⟩
/-- behind a call that leaves the board as it is, at its bay's blocks. -/
theorem PY.bay {w0 w w' : World} {v x b : Nat} {T : List Nat} {K : KS} {sv mv : Value} (h : PY w0 w v x b T K sv mv) (o : Bw w0 w' b T K.b) (s : Sp T w w') : PY w0 w' v x b T K sv mv :=
  have hv : v ∉ T := fun ht => h.nv (List.mem_cons_of_mem _ ht)
  ⟨s.held h.c0 hv, s.held h.c1 hv, fun o => (s.frozen h.lt hv o).trans (h.fz o), h.kx.bayX o s (Nw.refl _ _), h.nv, h.lv⟩
/-- behind a call on the board. -/
theorem PY.kz {w0 w w' : World} {v x b : Nat} {T : List Nat} {K K' : KS} {sv mv : Value} (h : PY w0 w v x b T K sv mv) (z : Kz w0 w w' x b T K') : ∃ T' s m, PY w0 w' v x b T' K' s m := by
  obtain ⟨T', s, m, h1, h2, h3⟩ := z
  exact ⟨T', s, m, h2.held h.c0 h.nv, h2.held h.c1 h.nv, fun o => (h2.frozen h.lt h.nv o).trans (h.fz o), h1, nw_nc h3 h.lt h.nv, h.lv⟩
/-- worlds in which the pair stands as it stood at We, but for its bay's blocks. -/
def R1 (W We : World) (v x b : Nat) (T : List Nat) (K : KS) (sv mv : Value) (V : World) : Prop := PY W V v x b T K sv mv ∧ Sp T We V
def R2 (W We : World) (v x b : Nat) (T : List Nat) (K : KS) (sv mv : Value) (m : Nat) (X F : List Nat) (V : World) : Prop := PY W V v x b T K sv mv ∧ Sp T We V ∧ BX W V b m X F K.b
/-- k changes behind the beginning. -/
structure Ep (K : KS) (k : Nat) : Prop where
  bo : Bo K.b K.l 110
  e : K.l.ep ≤ 2 + k
  g : K.b.g ≤ 2300 + 64 * k
theorem Ep.ok {K : KS} {k : Nat} (h : Ep K k) (hk : k ≤ 100) : Kok K := h.bo.kok (by have := h.e; omega) (by have := h.g; omega)
theorem Ep.more {K : KS} {k : Nat} (h : Ep K k) : Ep K (k + 1) := ⟨h.bo, by have := h.e; omega, by have := h.g; omega⟩
theorem Ep.chg {K K' : KS} {E : Int} {M : LB} {k : Nat} (h : Ep K k) (c : Chg K K' E (nx K M) 110) : E = 0 ∧ K'.l.ep = K.l.ep + 1 ∧ Ep K' (k + 1) := by
  have e1 : K'.l.ep = K.l.ep + 1 := by rw [c.l]; rfl
  refine ⟨c.e, e1, ⟨by rw [c.l]; exact c.bo, by have := h.e; omega, by have := h.g; have := c.g; omega⟩⟩
/-- a change of the epoch by one, if it is OK; else none. -/
def Step (K K' : KS) (E : Int) : Prop := (E = 0 ∧ K'.l.ep = K.l.ep + 1) ∨ (E ≠ 0 ∧ K'.l.ep = K.l.ep)
theorem ep_fail {K : KS} {k : Nat} (h : Ep K k) (hk : k ≤ 100) (m : Int) (hkn : ¬ (inK K m ∧ knK K m = true)) : Step K (bfK K m) (bfE K m) ∧ Ep (bfK K m) (k + 1) := by
  by_cases hin : inK K m
  · have hm : 0 ≤ m ∧ m < K.l.n := hin
    obtain ⟨mm, rfl⟩ : ∃ mm : Nat, m = mm := ⟨m.toNat, by omega⟩
    have hn : knK K mm = false := by cases hh : knK K mm with
      | false => rfl
      | true => exact absurd ⟨hin, hh⟩ hkn
    obtain ⟨c, _⟩ := fail_ok h.bo (by have := h.e; omega) mm hm.2 hn
    obtain ⟨a, b, c⟩ := h.chg c
    exact ⟨.inl ⟨a, b⟩, c⟩
  · have e1 : bfE K m = 3 := if_neg hin
    have e2 : bfK K m = K := if_neg hin
    rw [e1, e2]
    exact ⟨.inr ⟨by omega, rfl⟩, h.more⟩
theorem ep_known {K : KS} {k : Nat} (h : Ep K k) (m : Int) (hkn : inK K m ∧ knK K m = true) : bfK K m = K := by
  unfold bfK; rw [if_pos hkn.1, if_pos hkn.2]
theorem ep_rep {K : KS} {k : Nat} (h : Ep K k) (hk : k ≤ 100) (m : Int) : Step K (brK K m) (brE K m) ∧ Ep (brK K m) (k + 1) := by
  by_cases hin : inK K m
  · have hm : 0 ≤ m ∧ m < K.l.n := hin
    obtain ⟨mm, rfl⟩ : ∃ mm : Nat, m = mm := ⟨m.toNat, by omega⟩
    by_cases hs : K.l.sts.getD mm 0 = 1
    · obtain ⟨c, _⟩ := rep_ok h.bo (by have := h.e; omega) mm hm.2 hs
      obtain ⟨a, b, c⟩ := h.chg c
      exact ⟨.inl ⟨a, b⟩, c⟩
    · have e1 : brE K mm = 12 := by unfold brE; rw [if_pos hin, if_neg (by rw [Int.toNat_natCast]; exact hs)]
      have e2 : brK K mm = K := by unfold brK; rw [if_pos hin, if_neg (by rw [Int.toNat_natCast]; exact hs)]
      rw [e1, e2]
      exact ⟨.inr ⟨by omega, rfl⟩, h.more⟩
  · have e1 : brE K m = 3 := if_neg hin
    have e2 : brK K m = K := if_neg hin
    rw [e1, e2]
    exact ⟨.inr ⟨by omega, rfl⟩, h.more⟩
theorem ep_adv {K : KS} {k : Nat} (h : Ep K k) (hk : k ≤ 100) (m t : Int) : Step K (baK K m t) (baE K m t) ∧ Ep (baK K m t) (k + 1) := by
  by_cases hx : baX K m t = 0
  · have hin : inK K m := by
      unfold baX at hx
      by_cases hh : inK K m
      · exact hh
      · rw [if_neg hh] at hx; omega
    have hm : 0 ≤ m ∧ m < K.l.n := hin
    obtain ⟨mm, rfl⟩ : ∃ mm : Nat, m = mm := ⟨m.toNat, by omega⟩
    obtain ⟨c, _⟩ := adv_ok h.bo (by have := h.e; omega) mm t hx
    obtain ⟨a, b, c⟩ := h.chg c
    exact ⟨.inl ⟨a, b⟩, c⟩
  · have e1 : baE K m t = baX K m t := if_neg hx
    have e2 : baK K m t = K := if_neg hx
    rw [e1, e2]
    exact ⟨.inr ⟨hx, rfl⟩, h.more⟩
theorem ep_open {K : KS} {k : Nat} (h : Ep K k) (hk : k ≤ 100) (hl : 2 ≤ (lvL 0 K.b.ms).length) : opnE K.b = 0 ∧ (opnL K.b).ep < 9007199254740992 ∧ Step K (opnK K.b) 0 ∧ Ep (opnK K.b) (k + 1) := by
  have hlv : ∃ i, i < K.b.ms.length ∧ ddB K.b i = false := by
    cases hh : lvL 0 K.b.ms with
    | nil => rw [hh] at hl; simp at hl
    | cons i l => exact ⟨i, (lv_iff K.b i).1 (by rw [hh]; simp)⟩
  obtain ⟨o1, o2, o3, o4, o5, o6, o7⟩ := opn_ok h.bo (by have := h.e; omega) hlv
  have e1 : (opnK K.b).l.ep = K.l.ep + 1 := by rw [o3]
  exact ⟨o1, by rw [o2]; have := h.e; omega, .inl ⟨rfl, e1⟩, ⟨o4, by have := h.e; omega, by have := h.g; omega⟩⟩
theorem Ep.lens {K : KS} {k : Nat} (h : Ep K k) : K.l.sts.length ≤ 32 ∧ K.l.mks.length ≤ 32 ∧ (K.l.sts.length : Int) = K.l.n ∧ (K.l.mks.length : Int) = K.l.n ∧ 4 ≤ K.l.n ∧ (K.b.ms.length : Int) = K.l.n := by
  obtain ⟨g1, g2, g3, g4, g5, g6⟩ := (lg_iff _).1 h.bo.good
  obtain ⟨q1, q2, q3, q4⟩ := (gg_iff _ _).1 g1
  have := h.bo.len
  exact ⟨by omega, by omega, g4, g5, q1, h.bo.len⟩

end Go.Proofs.YtinpkfdmellleaaGreat
