/-
  Contract of a turn's Touch. Conditions: that the object lies in memory as TX says, as turns come.
-/
import Derived.Test.YtncdidklgpmefaaDoorTuCalls
namespace Go.Proofs.YtncdidklgpmefaaDoor
open Go.RowKit Plain
set_option linter.unusedVariables false

theorem Nz.next {σ : Type} {O : World → World → Nat → List Nat → σ → Prop} {w0 w w1 w' : World} {b : Nat} {T T1 : List Nat} {S' : σ} (s : Sp T w w1) (n : Nw w T T1) (h : Nz O w0 w1 w' b T1 S') : Nz O w0 w w' b T S' := by
  obtain ⟨T2, q1, q2, q3⟩ := h
  exact ⟨T2, q1, s.then q2 n, n.trans q3 s.size⟩
set_option maxRecDepth 100000 in
set_option maxHeartbeats 2000000 in
theorem touch_any {w0 w : World} {a : Nat} {T : List Nat} {S : TS} (h : TX w0 w a T S) (hg : Gd S) (k : Int) : Calls Tryd.prog 27 #[.pointer (some ⟨a, 0, none⟩), .int .i64 k] w fun e w' => e = .returned (.bool (inT S k)) ∧ Nz TX w0 w w' a T (toS S k) := by
  have hT := take_any h hg k
  cases hi : inT S k with
  | false =>
    have HH : Hid (tkS S k = toS S k) := by
      have hn := in_not.1 hi
      rw [List.mem_append, not_or] at hn
      show tkS S k = toS S k
      unfold toS tkS
      rw [hi, if_neg (by decide), erase_out hn.1, erase_out hn.2]
    rw [hi] at hT
    clear h hg
    go_enter Tryd.func27, Tryd.ntmps27
    go_wp2_with fail
    refine hT.mono ?_; rintro e w1 ⟨rfl, z⟩
    rw [HH.out] at z
    have HZ := hid z
    clear hT z
    go_wp2
    go_ret
    exact ⟨rfl, HZ.out⟩
  | true =>
    obtain ⟨S2, hS2⟩ : ∃ S2, S2 = dcS (tkS S k) k := ⟨_, rfl⟩
    have hZ : S2.Z = S.Z := by rw [hS2]; rfl
    have hD2 : S2.D = (tkS S k).D ++ [k] := by rw [hS2]; rfl
    have h1 := hg.len
    have h2 := hg.m2
    have h3 := hg.dl
    have h4 := hg.z0
    have h5 := erase_le S.D k
    have h6 : (tkS S k).D = S.D.erase k := rfl
    have hl2 : S2.D.length ≤ 65 := by rw [hD2, List.length_append, h6]; simp; omega
    have h7 := erase_le S.P k
    have HS : Hid (toS S k = bkS S2 ∧ S2 = dcS (tkS S k) k ∧ (tkS S k).D.length ≤ 64 ∧ S2.P.length ≤ 64 ∧ S2.D = (tkS S k).D ++ [k]) := ⟨by unfold toS; rw [hi, if_pos rfl, hS2], hS2, by rw [h6]; omega, by rw [hS2]; show (S.P.erase k).length ≤ 64; omega, hD2⟩
    rw [hi] at hT
    rw [HS.out.1]
    clear h hg h1 h2 h3 h4 h5 h6 h7 hD2 hS2
    go_enter Tryd.func27, Tryd.ntmps27
    go_wp2_with fail
    refine hT.mono ?_; rintro e w1 ⟨rfl, T1, ⟨mb, vp, vd, hT1, h⟩, s1, n1⟩
    have hA := rowadd_any h.h (o := 1) rfl h.d h.da h.sz (by have := HS.out.2.2.1; omega) k
    have HB := hid (And.intro h (And.intro s1 (And.intro n1 hT1)))
    clear hT h s1 n1 hT1
    go_wp2_with fail
    refine hA.mono ?_; rintro e w2 ⟨rfl, v', w3, rfl, ho, hs, hv⟩
    obtain ⟨W, hW⟩ : ∃ W, W = w3.setCell ⟨a, 1, none⟩ v' := ⟨_, rfl⟩
    have z : Nz TX w0 w W a T S2 := by
      have q := HB.out.1.setD hs ho hv
      rw [← HB.out.2.2.2, ← hW] at q
      refine Nz.next HB.out.2.1 HB.out.2.2.1 (q.mono ?_)
      rw [HS.out.2.1]
      rfl
    rw [← hW]
    clear hA ho hs hv hW HB
    obtain ⟨T2, ⟨mb2, vp2, vd2, hT2, h2⟩, s2, n2⟩ := z
    obtain ⟨c0, c1, c2, c3, c4⟩ := h2.cells
    obtain ⟨pd, cd, hvd⟩ := h2.d.shape
    rw [hvd] at c1
    obtain ⟨n, hn⟩ : ∃ n, n = S2.D.length := ⟨_, rfl⟩
    rw [← hn] at c1 hl2
    have HB := hid (And.intro h2 (And.intro s2 (And.intro n2 (And.intro hT2 (And.intro hvd hn)))))
    obtain ⟨zz, hzz⟩ : ∃ zz, zz = S2.Z := ⟨_, rfl⟩
    have HZ := hid hzz
    rw [← hzz] at c3
    clear h2 s2 n2 hT2 hvd hn hzz
    by_cases hlt : zz < (n : Int)
    · have hd : decide (zz < (n : Int)) = true := by simp [hlt]
      go_wp2_with fail
      go_quiet (fail)
      rename_i nq
      obtain ⟨V, hV⟩ : ∃ V, V = W.drewN nq := ⟨_, rfl⟩
      have kV : Kp W V := by rw [hV]; exact (Kp.refl W).drewN _
      rw [← hV]
      have h2 := HB.out.1.kept kV
      obtain ⟨f, r, hfr⟩ : ∃ f r, S2.D = f :: r := by
        rw [HS.out.2.2.2.2]
        cases (tkS S k).D with
        | nil => exact ⟨k, [], rfl⟩
        | cons x l => exact ⟨x, l ++ [k], rfl⟩
      have hIn := h2.d.ints
      obtain ⟨pd', g, cd', e1, q1, q2, q3, q4, q5⟩ := hIn
      have hlD : 0 < S2.D.length := by rw [hfr]; simp
      have e2 := q3 hlD
      have d0 := q5 0 hlD
      rw [hfr, List.getD_cons_zero] at d0
      have e3 : pd = some ⟨g, 0, none⟩ := by
        have := HB.out.2.2.2.2.1
        rw [e1, e2] at this
        simp at this
        exact this.1.symm
      subst e3
      have c1 := kV.held c1
      have hn0 : 0 < (n : Int) := by have := HB.out.2.2.2.2.2; omega
      have hT := rowtake_hit h2.h (o := 1) rfl h2.d h2.da (by have := HB.out.2.2.2.2.2; omega) f (by rw [hfr]; simp)
      have HF := hid (And.intro hfr (And.intro h2 (And.intro kV hlt)))
      clear h2 hV kV hfr e1 q1 q2 q3 q4 q5 hlD e2 c0 c2 c3 c4 hd hlt
      go_wp2_with fail
      refine hT.mono ?_; rintro e w4 ⟨rfl, v4, w5, rfl, ho, hs, hv⟩
      rw [HF.out.1, List.erase_cons_head] at ho
      obtain ⟨W5, hW5⟩ : ∃ W5, W5 = w5.setCell ⟨a, 1, none⟩ v4 := ⟨_, rfl⟩
      have z : Nz TX w0 w W5 a T { S2 with D := r } := by
        have q := HF.out.2.1.setD hs ho (.inl hv)
        rw [← HB.out.2.2.2.1, ← hW5] at q
        refine Nz.next HB.out.2.1 HB.out.2.2.1 ?_
        obtain ⟨T', p1, p2, p3⟩ := q
        exact ⟨T', p1, (HF.out.2.2.1.sp _).trans p2, (Nw.refl _ _).trans p3 HF.out.2.2.1.size⟩
      rw [← hW5]
      clear hT ho hs hv hW5 c1 d0
      obtain ⟨T6, ⟨mb6, vp6, vd6, hT6, h6⟩, s6, n6⟩ := z
      have hA := rowadd_any h6.h (o := 0) rfl h6.p h6.pa h6.sz (by have := HS.out.2.2.2.1; show S2.P.length ≤ 1000; omega) f
      have H6 := hid (And.intro h6 (And.intro s6 (And.intro n6 hT6)))
      clear h6 s6 n6 hT6
      go_wp2_with fail
      refine hA.mono ?_; rintro e w7 ⟨rfl, v7, w8, rfl, ho, hs, hv⟩
      obtain ⟨W8, hW8⟩ : ∃ W8, W8 = w8.setCell ⟨a, 0, none⟩ v7 := ⟨_, rfl⟩
      have z : Nz TX w0 w W8 a T (bkS S2) := by
        have q := H6.out.1.setP hs ho hv
        rw [← H6.out.2.2.2, ← hW8] at q
        refine Nz.next H6.out.2.1 H6.out.2.2.1 (q.mono ?_)
        unfold bkS
        rw [HF.out.1]
        show _ = if S2.Z < ((f :: r).length : Int) then _ else _
        rw [if_pos (by have := HF.out.2.2.2; have e5 := HB.out.2.2.2.2.2; rw [HF.out.1] at e5; rw [← e5, ← HZ.out]; exact this)]
      have HE := hid z
      rw [← hW8]
      clear hA ho hs hv hW8 z H6 HF HB HZ HS
      go_wp2
      go_ret
      exact ⟨rfl, HE.out⟩
    · have hd : decide (zz < (n : Int)) = false := by simp; omega
      have z : Nz TX w0 w W a T (bkS S2) := by
        have e0 : bkS S2 = S2 := by
          unfold bkS
          split
          · rfl
          · rw [if_neg (by rw [← HB.out.2.2.2.2.2, ← HZ.out]; exact hlt)]
        rw [e0]
        exact ⟨T2, ⟨mb2, vp2, vd2, HB.out.2.2.2.1, HB.out.1⟩, HB.out.2.1, HB.out.2.2.1⟩
      have HE := hid z
      clear z HB HZ HS hlt
      go_wp2_with fail
      go_quiet (fail)
      go_wp2
      go_ret
      exact ⟨rfl, HE.out.kp OL.tx ((Kp.refl _).drewN _)⟩

end Go.Proofs.YtncdidklgpmefaaDoor
