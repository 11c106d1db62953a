/-
  Contract of next: whose turn it is. Conditions: that the object lies in memory as LX says.
-/
import Derived.Test.YtcmomebjkbhboaaLfKeys
namespace Go.Proofs.Ytcmomebjkbhboaa
open Go.RowKit Plain
set_option linter.unusedVariables false

set_option maxRecDepth 100000 in
set_option maxHeartbeats 4000000 in
theorem next_any {w0 w : World} {a : Nat} {T : List Nat} {S : LS} (h : LX w0 w a T S) (hl : S.L.length ≤ 1000) (h0 : 0 < S.L.length) : Calls Try.prog 22 #[.pointer (some ⟨a, 0, none⟩)] w fun e w' => ∃ k, e = .returned (.int .i64 k) ∧ Nx S k ∧ Kp w w' := by
  have HX := hid h
  obtain ⟨v, rfl, h1, h2, h3, h4, h5⟩ := h
  obtain ⟨p, g, cap, rfl, hp, hle, hcp, hc⟩ := h3.cells
  obtain ⟨rfl, _⟩ := hp h0
  obtain ⟨d0, d1⟩ := hc 0 h0
  rw [Nat.zero_mul] at d0 d1
  rw [Nat.zero_add] at d1
  have c0 := cell_of h1 0
  have c1 := cell_of h1 1
  have c2 := cell_of h1 2
  obtain ⟨n, hn⟩ : ∃ n, n = S.L.length := ⟨_, rfl⟩
  have e0 : w.cell? ⟨a, 0, none⟩ = some (.slice (some ⟨g, 0, none⟩) n cap) := by rw [hn]; exact c0
  have e1 : w.cell? ⟨a, 1, none⟩ = some (.int .i64 S.g) := c1
  have e2 : w.cell? ⟨a, 2, none⟩ = some (.int .i64 S.h) := c2
  have HNn := hid hn
  obtain ⟨y, hy⟩ : ∃ y, y = S.L.getD 0 wz := ⟨_, rfl⟩
  rw [← hy] at d0 d1
  have HY := hid hy
  obtain ⟨ag, hag⟩ : ∃ ag, ag = S.g := ⟨_, rfl⟩
  rw [← hag] at e1
  have HA := hid hag
  rw [← hn] at hle h0
  obtain ⟨W, hW⟩ : ∃ W, W = w.alloc (.cells #[.int .i64 y.k, .int .i64 y.n] 53) := ⟨_, rfl⟩
  have kW : Kp w W := by rw [hW]; exact (Kp.refl w).alloc _
  have q0 : W.cell? ⟨w.heap.size, 0, none⟩ = some (.int .i64 y.k) := by rw [hW, World.cell?_alloc_at _ _ _ _ rfl]; rfl
  have q1 : W.cell? ⟨w.heap.size, 1, none⟩ = some (.int .i64 y.n) := by rw [hW, World.cell?_alloc_at _ _ _ _ rfl]; rfl
  have e1 := kW.held e1
  have HW := hid hW
  have HK := hid kW
  clear h1 h2 h3 h4 h5 hc hp hn hy hag c0 c1 c2 hW kW
  by_cases hlate : ag ≤ y.n
  · have hd : decide (ag ≤ y.n) = true := decide_eq_true hlate
    have HE : Hid (Nx S y.k) := by have := nx_late (S := S) (by rw [← HNn.out]; exact h0) (by rw [← HY.out, ← HA.out]; exact hlate); rw [← HY.out] at this; exact this
    clear hlate
    go_enter Try.func22, Try.ntmps22
    go_upto_region 2 with fail
    rw [← HW.out]
    clear HW
    go_quiet (fail)
    go_wp2
    go_ret
    exact ⟨_, rfl, HE.out, HK.out.drewN _⟩
  · have hd : decide (ag ≤ y.n) = false := decide_eq_false hlate
    have HL : Hid (¬ S.g ≤ (S.L.getD 0 wz).n) := by show ¬ _; rw [← HY.out, ← HA.out]; exact hlate
    clear hlate
    go_enter Try.func22, Try.ntmps22
    go_upto_region 2 with fail
    rw [← HW.out]
    clear HW
    go_quiet (fail)
    rename_i nq
    obtain ⟨w2, hw2⟩ : ∃ w2, w2 = W.drewN nq := ⟨_, rfl⟩
    rw [← hw2]
    have k2 : Kp w w2 := by rw [hw2]; exact HK.out.drewN _
    have hKy := keys_any (HX.out.kept k2) hl
    have K2 := hid k2
    clear hw2 k2 q0 q1 e1 HK hd
    go_wp2_with fail
    refine hKy.mono ?_; rintro e w3 ⟨u, rfl, ho, k3⟩
    have hI := ho.ints
    have hl3 := rs_len S.L
    have e3 := (K2.out.trans k3).held e2
    have hB := bs_any u (rsL S.L) S.h w3 hI (by rw [hl3]; exact hl)
    have HK3 := hid (K2.out.trans k3)
    obtain ⟨a3, g3, cap3, rfl, r1, r2, r3, r4⟩ := hI
    have HR : Hid ((0 < n → a3 = some ⟨g3, 0, none⟩) ∧ ∀ j, j < n → w3.cell? ⟨g3, j, none⟩ = some (.int .i64 ((rsL S.L).getD j 0))) := ⟨fun h => r3 (by rw [hl3, ← HNn.out]; exact h), fun j hj => r4 j (by rw [hl3, ← HNn.out]; exact hj)⟩
    rw [hl3, ← HNn.out] at hB r1
    rw [hl3, ← HNn.out]
    obtain rfl := HR.out.1 h0
    clear hKy ho k3 r3 r4 hl3 K2
    go_wp2_with fail
    refine hB.mono ?_; rintro e w4 ⟨i, ⟨b, rfl⟩, i1, i2, i3, rfl⟩
    have HI : Hid ((0 < i → (rsL S.L).getD (i - 1) 0 < S.h) ∧ (i < n → S.h ≤ (rsL S.L).getD i 0)) := ⟨i2, i3⟩
    clear hB i2 i3
    by_cases hin : i = n
    · have hie : ((i : Int) == (n : Int)) = true := by simp [hin]
      have z0 := HR.out.2 0 h0
      have HE : Hid (Nx S ((rsL S.L).getD 0 0)) := nx_low (by rw [← HNn.out]; exact h0) (by have := HL.out; omega) (by rw [← HNn.out, ← hin]; exact HI.out.1 (by omega))
      obtain ⟨z, hz⟩ : ∃ z, z = (rsL S.L).getD 0 0 := ⟨_, rfl⟩
      rw [← hz] at z0 HE
      clear hz hin
      go_wp2
      go_ret
      exact ⟨_, rfl, HE.out, HK3.out⟩
    · have hie : ((i : Int) == (n : Int)) = false := by simp; omega
      have hin2 : i < n := by omega
      have hin3 : (i : Int) < (n : Int) := by omega
      have z0 := HR.out.2 i hin2
      have HE : Hid (Nx S ((rsL S.L).getD i 0)) := nx_up (by rw [← HNn.out]; exact hin2) (by have := HL.out; omega) HI.out.1 (HI.out.2 hin2)
      obtain ⟨z, hz⟩ : ∃ z, z = (rsL S.L).getD i 0 := ⟨_, rfl⟩
      rw [← hz] at z0 HE
      clear hz hin
      go_wp2
      go_ret
      exact ⟨_, rfl, HE.out, HK3.out⟩

end Go.Proofs.Ytcmomebjkbhboaa
