/-
  Contracts of the document's Add, Pin and Drop. Conditions: that the object lies in memory as RX says, beside a turn (Rl).
-/
import Derived.Test.YteiangakgfekgaaTuRFst
import Derived.Deep.RegionLaw
namespace Go.Proofs.Yteiangakgfekgaa
open Go.RowKit Plain
set_option linter.unusedVariables false

theorem run_append_rk {w : World} (ty : TypeId) (base : Nat) (v : Value) (l : List RK) (hown : OwR w base v l) (p : RK) (k : Nat) (hc : w.rangeAt k 0 (rc p))
    (hlen : l.length + 1 ≤ 1099511627776) (hbase : base ≤ w.heap.size) : ∃ v' w', (Builtin.append_ #[61, 61] ty #[v, .slice (some ⟨k, 0, none⟩) 1 1]).run Try.prog w = .ok v' w' ∧ OwR w' base v' (l ++ [p]) ∧ w.grownBy w' v.ownBlock ∧ (v'.ownBlock = v.ownBlock ∨ v'.ownBlock = some w.heap.size) := by
  obtain ⟨i0, hi, hz0, hz1, hz2⟩ := info_parts info_rk
  obtain ⟨v', w', hr, h1, h2, _, h3⟩ := run_append_own_at (P := Try.prog) w base 61 ty 69 i0 rkZ 4 24 Try.underlying61 hi hz0 hz1 hz2 rfl (by decide) v l.length (rv l) hown ⟨k, 0, none⟩ 1 1 (rc p) rfl (by
    intro j u hj
    rw [Addr.add_lit]
    exact hc j u hj) (by simp [rc, Value.oneCell']) (by unfold maxLen; omega) (by omega) hbase
  refine ⟨v', w', hr, ?_, h2, h3⟩
  unfold OwR
  rw [List.length_append, rv_app]
  have : rv [p] = rc p := by simp [rv]
  rw [this]
  exact h1
theorem step_append_run {ops : Array Oper} {o : Oper} {a : Act} {w : World} {K : Act → World → Prop} {Q : Exit → Act → World → Prop} {E : Prop} (hgd : o.guard = none) (s x : Operand) (t : TypeId)
    (ho : o.op = .call { callee := .builtin .append, args := #[s, x], argTypes := #[t, t] }) (v vx : Value) (hs : a.eval s = v) (hx : a.eval x = vx) {v' : Value} {w' : World}
    (hrun : (Builtin.append_ #[t, t] o.type #[v, vx]).run Try.prog w = .ok v' w') (cont : K (a.put o.dst v') w') :
    if Region.wanted o (yielded ops a.tmps) = true then Oper.wp Try.prog o a w K Q else E := by
  have hw : Region.wanted o (yielded ops a.tmps) = true := by simp [Region.wanted, hgd]
  rw [if_pos hw]
  unfold Oper.wp
  simp [execOp, ho, resolve, invoke, builtin, hs, hx, hrun, Result.andThen]
  exact cont
theorem OwR.slc {w : World} {base : Nat} {v : Value} {l : List RK} (h : OwR w base v l) : ∃ p n c, v = .slice p n c := by
  obtain ⟨p, c, rfl, _⟩ := h.shape
  exact ⟨_, _, _, rfl⟩
/-- behind a call of the document's: its state, and what it is beside. -/
def Rz (w0 w w' : World) (a : Nat) (T : List Nat) (S' : TS) (c : Int) : Prop := ∃ R', Rl S' R' ∧ 0 ≤ R'.c ∧ R'.c ≤ c ∧ Nz RX w0 w w' a T R'
theorem fr_in {S : TS} {R : RS} (hr : Rl S R) {k z : Int} (h : Fr R.L k z) : (z = -1 ∧ inT S k = false) ∨ (0 ≤ z ∧ inT S k = true ∧ ∃ A y B, R.L = A ++ y :: B ∧ z = (A.length : Int) ∧ y.n = k) := by
  rcases h with ⟨rfl, h⟩ | ⟨A, y, B, e, rfl, h, _⟩
  · exact .inl ⟨rfl, in_not.2 (fun hm => by obtain ⟨x, hx, e⟩ := (hr.mem k).2 hm; exact h x hx e)⟩
  · exact .inr ⟨by omega, in_iff.2 ((hr.mem k).1 ⟨y, by rw [e]; simp, h⟩), A, y, B, e, rfl, h⟩
set_option maxRecDepth 100000 in
set_option maxHeartbeats 4000000 in
theorem radd_any {w0 w : World} {a : Nat} {T : List Nat} {S : TS} {R : RS} (h : RX w0 w a T R) (hr : Rl S R) (hg : Gd S) (hc0 : 0 ≤ R.c) (hcm : R.c ≤ 100000) (k : Int) : Calls Try.prog 20 #[.pointer (some ⟨a, 0, none⟩), .int .i64 k] w fun e w' => e = .returned (.int .i64 (adE S k)) ∧ Rz w0 w w' a T (adS S k) (R.c + 1) := by
  have hlen := hr.len
  have hl : R.L.length ≤ 64 := by have := hg.len; have := hg.m2; omega
  have hF := rfind_any h (by omega) k
  have HH := hid (And.intro h (And.intro hr hg))
  clear h hr hg
  go_enter Try.func20, Try.ntmps20
  go_wp2_with fail
  refine hF.mono ?_; rintro e w1 ⟨z, rfl, hz, rfl⟩
  clear hF
  rcases fr_in HH.out.2.1 hz with ⟨rfl, hin⟩ | ⟨hz0, hin, _⟩
  · obtain ⟨v, hT, hB⟩ := HH.out.1
    obtain ⟨c0, c1, c2, c3, cf⟩ := hB.cells
    obtain ⟨p, c, hvs, q1, q2⟩ := hB.o.shape
    obtain ⟨n, hn⟩ : ∃ n, n = R.L.length := ⟨_, rfl⟩
    rw [hvs, ← hn] at c2
    rw [← hn] at q1
    have hM : R.M = S.M := HH.out.2.1.M
    have HB := hid (And.intro hT (And.intro hB (And.intro hvs (And.intro hn hin))))
    obtain ⟨m, hm⟩ : ∃ m, m = R.M := ⟨_, rfl⟩
    have HMm := hid (hm.trans hM)
    rw [← hm] at c0
    rw [← hn] at hl
    have hnm : (n : Int) = (S.P.length : Int) + (S.D.length : Int) := by omega
    have HNM := hid hnm
    clear hT hB hvs hn hin hM hm hnm hlen hz
    by_cases hf : m ≤ (n : Int)
    · have hd : decide (m ≤ (n : Int)) = true := by simp [hf]
      have HE : Hid (adE S k = 10 ∧ adS S k = S) := by
        have e1 : adE S k = 10 := by
          unfold adE
          rw [HB.out.2.2.2.2, if_neg (by decide), if_pos (by rw [← HMm.out, ← HNM.out]; exact hf)]
        exact ⟨e1, ad_no (by rw [e1]; decide)⟩
      clear hf
      go_wp2_with fail
      go_quiet (fail)
      go_wp2
      go_ret
      refine ⟨by rw [HE.out.1]; rfl, R, ?_, hc0, by omega, Nz.of OL.rx HH.out.1 ((Kp.refl _).drewN _)⟩
      rw [HE.out.2]
      exact HH.out.2.1
    · have hd : decide (m ≤ (n : Int)) = false := by simp; omega
      have HE : Hid (adE S k = 0) := ad_iff.2 ⟨in_not.1 HB.out.2.2.2.2, by rw [← HMm.out, ← HNM.out]; omega⟩
      clear hf
      go_wp2_with fail
      go_quiet (fail)
      rename_i nq
      obtain ⟨w2, hw2⟩ : ∃ w2, w2 = w1.drewN nq := ⟨_, rfl⟩
      rw [← hw2]
      have k2 : Kp w1 w2 := by rw [hw2]; exact (Kp.refl w1).drewN _
      have hB2 := HB.out.2.1.kept k2
      obtain ⟨cc, hcc⟩ : ∃ c, c = R.c := ⟨_, rfl⟩
      obtain ⟨W, hW⟩ : ∃ W, W = w2.drew.alloc (.cells #[.int .i64 k, .bool false, .bool false, .int .i64 cc] 69) := ⟨_, rfl⟩
      have kW : Kp w2 W := by rw [hW]; exact ((Kp.refl w2).drew).alloc _
      have hit : W.rangeAt w2.heap.size 0 (rc ⟨k, false, false, cc⟩) := by rw [hW]; exact lit_rk w2.drew ⟨k, false, false, cc⟩ _ _ rfl
      have hBW := hB2.kept kW
      obtain ⟨v', w4, hrun, o1, o2, o3⟩ := run_append_rk (w := W) 61 w0.heap.size v R.L hBW.o ⟨k, false, false, cc⟩ w2.heap.size hit (by have := HB.out.2.2.2.1; omega) hBW.sz
      obtain ⟨p', n', c', hvs'⟩ := o1.slc
      have s4 := grown_sp o2
      obtain ⟨i1, i2, i3⟩ := hBW.setL s4 o1 (o3.elim .inl (fun h => .inr (fun N hN => by rw [h] at hN; cases hN; exact Nat.le_refl _)))
      have hh1 := (s4.block a (heap_lt hBW.h) (fun e => hBW.va (by simpa using e))).trans hBW.h
      have d0 : w4.cell? ⟨a, 2, none⟩ = some v := cell_of hh1 2
      have f0 := frozen_of hh1 2
      obtain ⟨W5, hW5⟩ : ∃ W5, W5 = w4.setCell ⟨a, 2, none⟩ v' := ⟨_, rfl⟩
      rw [← hW5] at i1 i2
      have HI := hid (And.intro i1 (And.intro i2 (And.intro i3 (And.intro ((k2.trans kW)) hcc))))
      have y2 : W5.cell? ⟨a, 3, none⟩ = some (.int .i64 cc) := by rw [hcc]; exact i1.cells.2.2.2.1
      have yf2 := i1.cells.2.2.2.2 3
      obtain ⟨_, _, c2a, c3a, fa⟩ := hB2.cells
      have fa2 := fa 2
      rw [HB.out.2.2.1, ← HB.out.2.2.2.1] at hrun c2a d0
      rw [← hcc] at c3a
      rw [hvs'] at hrun hW5
      rw [hW] at hrun
      have c1b : (w2.drew.alloc (.cells #[.int .i64 k, .bool false, .bool false, .int .i64 cc] 69)).cell? ⟨a, 2, none⟩ = some (.slice p n c) := (((Kp.refl w2).drew).alloc _).held c2a
      have c1c : (w2.alloc (.cells #[.int .i64 k, .bool false, .bool false, .int .i64 cc] 69)).cell? ⟨a, 2, none⟩ = some (.slice p n c) := ((Kp.refl w2).alloc _).held c2a
      have hcb : 0 ≤ cc ∧ cc ≤ 100000 := by rw [hcc]; exact ⟨hc0, hcm⟩
      obtain ⟨hcb1, hcb2⟩ := hcb
      have HW5 := hid hW5
      have mixed : Try.prog.follows .mixedOrders = true := by kernel_rfl
      clear hw2 k2 hB2 hcc hW kW hit hBW o1 o2 o3 hvs' s4 i1 i2 i3 hh1 hW5 fa c0 c1 c2 c3 cf hc0 hcm
      go_wp2_with fail
      go_region_law (refine step_append_run rfl _ _ 61 rfl _ _ rfl rfl hrun ?_)
      all_goals
        rw [← HW5.out]
        clear hrun c1b c1c d0 f0 c2a c3a fa2
        go_wp2
        go_ret
        obtain ⟨j1, j2⟩ := HI.out.1.setC (cc + 1)
        refine ⟨by rw [HE.out]; rfl, { R with L := R.L ++ [⟨k, false, false, R.c⟩], c := R.c + 1 }, HH.out.2.1.add HH.out.2.2 HE.out, ?_, Int.le_refl _, ?_⟩
        · show 0 ≤ R.c + 1
          have := HI.out.2.2.2.2; omega
        · rw [HB.out.1]
          refine ⟨_, ⟨v', rfl, ?_⟩, ((HI.out.2.2.2.1.sp _).trans HI.out.2.1).then j2 ((Nw.refl _ _).trans HI.out.2.2.1 HI.out.2.2.2.1.size), (Nw.refl _ _).trans HI.out.2.2.1 HI.out.2.2.2.1.size⟩
          have e5 := HI.out.2.2.2.2
          subst e5
          exact j1
  · have HE : Hid (adE S k = 11 ∧ adS S k = S) := by
      have e1 : adE S k = 11 := by unfold adE; rw [if_pos hin]
      exact ⟨e1, ad_no (by rw [e1]; decide)⟩
    clear hin hz
    have hzd : decide (0 ≤ z) = true := by simp [hz0]
    go_wp2
    go_ret
    refine ⟨by rw [HE.out.1]; rfl, R, ?_, hc0, by omega, Nz.refl HH.out.1⟩
    rw [HE.out.2]
    exact HH.out.2.1

end Go.Proofs.Yteiangakgfekgaa
