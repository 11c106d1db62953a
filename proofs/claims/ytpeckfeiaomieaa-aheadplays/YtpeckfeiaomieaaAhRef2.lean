/-
  The contract of the document's Note where the block is the one that comes next, and as a whole; its New. Conditions: that the object lies in memory, and is as planners come.
-/
import Derived.Test.YtpeckfeiaomieaaAhRef
import Derived.Test.YtpeckfeiaomieaaAhNew
namespace Go.Proofs.Ytpeckfeiaomieaa
open Go.RowKit Plain
set_option linter.unusedVariables false

set_option maxRecDepth 100000 in
set_option maxHeartbeats 4000000 in
theorem rnoteF {w : World} {a : Nat} {S : AS} (h : RAt w a S) (hk : Ak S) (h2 : S.n < S.B) (hr : 1 ≤ S.r) (hf : farS (askS S S.n) = true) : Calls Try.prog 12 #[.pointer (some ⟨a, 0, none⟩), .int .i64 S.n] w fun x w' => x = .returned (.tuple #[.int .i64 0, .int .i64 0, .bool false]) ∧ RAt w' a (askS S S.n) ∧ Sp [a] w w' := by
  have hn : ¬(S.r = 0 ∨ S.n ≠ S.n) := by omega
  rw [ask_on hn] at hf ⊢
  have q1 := hk.B2
  have q2 := hk.n1
  have q3 := hk.r2
  have q4 := hk.w1
  have q5 := hk.w2
  have q6 := hk.e1
  have q7 := hk.e2
  have c0 := h.c0
  have c3 := h.c3
  have c4 := h.c4
  have z3 := h.z 3
  have z4 := h.z 4
  rw [show nxS S = S.n from if_neg (by omega)] at c3
  obtain ⟨V, hV⟩ : ∃ V, V = ((w.setCell ⟨a, 4, none⟩ (.int .i64 (S.r + 1))).setCell ⟨a, 3, none⟩ (.int .i64 (S.n + 1))) := ⟨_, rfl⟩
  have hA : RAt V a ⟨S.n + 1, S.r + 1, S.w, S.e, S.B, S.R, S.M⟩ := by
    rw [hV]
    have := heap_set (heap_set h 4 (.int .i64 (S.r + 1))) 3 (.int .i64 (S.n + 1))
    unfold RAt
    rw [this]
    unfold nxS
    simp only
    rw [if_neg (show ¬ S.r + 1 = 0 by omega)]
    rfl
  have hS : Sp [a] w V := by rw [hV]; exact ((Sp.refl [a] w).set a 4 (by simp) _).set a 3 (by simp) _
  have d3 := hA.c3
  have d4 := hA.c4
  have d5 := hA.c5
  have d6 := hA.c6
  rw [show nxS ⟨S.n + 1, S.r + 1, S.w, S.e, S.B, S.R, S.M⟩ = S.n + 1 from if_neg (show ¬ S.r + 1 = 0 by omega)] at d3
  simp only at d4 d5 d6
  have HV := hid hV
  have HA := hid (And.intro hA hS)
  clear h hk hn hV hA hS
  obtain ⟨n, r, wi, e, B, R, M⟩ := S
  simp only at *
  have hd : wi.tdiv 2 = wi / 2 := Int.tdiv_eq_ediv_of_nonneg q4
  have hf2 : n + 1 + wi / 2 < e := by have := of_decide_eq_true hf; simp only at this; omega
  clear hf
  go_enter Try.func12, Try.ntmps12
  go_upto_region 9 with fail
  rw [← HV.out]
  go_upto_region 11 with fail
  go_quiet (fail)
  go_wp2
  refine bodyPost_ret (results_tmp3 rfl _ _ _) rfl ?_
  exact ⟨rfl, HA.out.1.kp (Kp.drewN (Kp.refl _) _), HA.out.2.trans ((Kp.drewN (Kp.refl _) _).sp _)⟩
set_option maxRecDepth 100000 in
set_option maxHeartbeats 4000000 in
theorem rnoteW {w : World} {a : Nat} {S : AS} (h : RAt w a S) (hk : Ak S) (h2 : S.n < S.B) (hr : 1 ≤ S.r) (hf : farS (askS S S.n) = false) : Calls Try.prog 12 #[.pointer (some ⟨a, 0, none⟩), .int .i64 S.n] w fun x w' => x = .returned (.tuple #[.int .i64 (ntF S S.n), .int .i64 (ntT S S.n), .bool (ntB S S.n)]) ∧ RAt w' a (ntS S S.n) ∧ Sp [a] w w' := by
  have hn : ¬(S.r = 0 ∨ S.n ≠ S.n) := by omega
  have hk1 := (hk.ask hk.n1 h2)
  have hk2 := hk1.wid
  have hto := hk2.to
  have hR2 : 2 ≤ (askS S S.n).r := by rw [ask_on hn]; simp only; omega
  obtain ⟨tt, htt⟩ : ∃ x, x = toS (widS (askS S S.n)) := ⟨_, rfl⟩
  obtain ⟨fr, hfr⟩ : ∃ x, x = frS (widS (askS S S.n)) := ⟨_, rfl⟩
  have HE : Hid ((tt ≤ fr ∧ ntF S S.n = 0 ∧ ntT S S.n = 0 ∧ ntB S S.n = false ∧ ntS S S.n = widS (askS S S.n)) ∨ (fr < tt ∧ ntF S S.n = fr ∧ ntT S S.n = tt ∧ ntB S S.n = true ∧ ntS S S.n = endS (widS (askS S S.n)))) := by
    by_cases hlt : tt ≤ fr
    · have q1 : wayS S S.n = 2 := way2.2 ⟨⟨hk.n1, h2⟩, ⟨hR2, hf⟩, by rw [← htt, ← hfr]; exact hlt⟩
      exact .inl ⟨hlt, (nt_zero (by omega)).1, (nt_zero (by omega)).2, by rw [(nt_at _ q1).2]; rfl, by rw [(nt_at _ q1).1]; rfl⟩
    · have q1 : wayS S S.n = 3 := way3.2 ⟨⟨hk.n1, h2⟩, ⟨hR2, hf⟩, by rw [← htt, ← hfr]; omega⟩
      exact .inr ⟨by omega, by rw [(nt_told q1).1, hfr], by rw [(nt_told q1).2, htt], by rw [(nt_at _ q1).2]; rfl, by rw [(nt_at _ q1).1]; rfl⟩
  rw [ask_on hn] at htt hfr hf HE
  have q1 := hk.B2
  have q2 := hk.n1
  have q3 := hk.r2
  have q4 := hk.w1
  have q5 := hk.w2
  have q6 := hk.e1
  have q7 := hk.e2
  have q8 := hk.R1
  have q9 := hk.R2
  have q10 := hk.M1
  have q11 := hk.M2
  have c0 := h.c0
  have c3 := h.c3
  have c4 := h.c4
  have z3 := h.z 3
  have z4 := h.z 4
  rw [show nxS S = S.n from if_neg (by omega)] at c3
  obtain ⟨V, hV⟩ : ∃ V, V = ((w.setCell ⟨a, 4, none⟩ (.int .i64 (S.r + 1))).setCell ⟨a, 3, none⟩ (.int .i64 (S.n + 1))) := ⟨_, rfl⟩
  have hA : RAt V a ⟨S.n + 1, S.r + 1, S.w, S.e, S.B, S.R, S.M⟩ := by
    rw [hV]
    have := heap_set (heap_set h 4 (.int .i64 (S.r + 1))) 3 (.int .i64 (S.n + 1))
    unfold RAt
    rw [this]
    unfold nxS
    simp only
    rw [if_neg (show ¬ S.r + 1 = 0 by omega)]
    rfl
  have hS : Sp [a] w V := by rw [hV]; exact ((Sp.refl [a] w).set a 4 (by simp) _).set a 3 (by simp) _
  have d2 := hA.c2
  have d3 := hA.c3
  have d4 := hA.c4
  have d5 := hA.c5
  have d6 := hA.c6
  rw [show nxS ⟨S.n + 1, S.r + 1, S.w, S.e, S.B, S.R, S.M⟩ = S.n + 1 from if_neg (show ¬ S.r + 1 = 0 by omega)] at d3
  simp only at d2 d4 d5 d6
  have HV := hid hV
  have HA := hid (And.intro hA hS)
  clear h hk hn hV hA hS hk1 hk2 hto hR2
  obtain ⟨n, r, wi, e, B, R, M⟩ := S
  simp only [widS, toS, frS, endS] at *
  have hd : wi.tdiv 2 = wi / 2 := Int.tdiv_eq_ediv_of_nonneg q4
  have hf2 : ¬ n + 1 + wi / 2 < e := by have := of_decide_eq_false hf; simp only at this; omega
  clear hf
  obtain ⟨X, hX⟩ : ∃ x, x = min (max (2 * wi) 2) M := ⟨_, rfl⟩
  rw [← hX] at htt HE
  rw [← htt] at HE
  have hX1 : 1 ≤ X ∧ X ≤ 64 := by omega
  have HF := hid (And.intro htt hfr)
  go_enter Try.func12, Try.ntmps12
  go_upto_region 9 with fail
  rw [← HV.out]
  go_upto_region 11 with fail
  go_quiet (fail)
  obtain ⟨Y, hY⟩ : ∃ Y, Y = V.drewN nq := ⟨_, rfl⟩
  have kY : Kp V Y := by rw [hY]; exact Kp.drewN (Kp.refl _) _
  rw [← hY]
  have HB : Hid (RAt Y a ⟨n + 1, r + 1, wi, e, B, R, M⟩ ∧ Sp [a] w Y) := ⟨HA.out.1.kp kY, HA.out.2.trans (kY.sp _)⟩
  obtain ⟨W0, hW0⟩ : ∃ x, x = max (2 * wi) 2 := ⟨_, rfl⟩
  rw [← hW0] at hX
  have hw0 : 2 ≤ W0 ∧ W0 ≤ 128 := by omega
  have HX : Hid (X = min W0 M ∧ W0 = max (2 * wi) 2) := ⟨hX, hW0⟩
  obtain ⟨hw1, hw2⟩ := hw0
  obtain ⟨hX1, hX2⟩ := hX1
  clear hX hW0 htt hfr
  have d2' := HB.out.1.c2
  have d5' := HB.out.1.c5
  have z5' := HB.out.1.z 5
  simp only at d2' d5'
  clear kY hY d2 d3 d4 d5 d6 z3 z4 c0 c3 c4 HA HV
  go_upto_if 76 with fail
  go_cut [7] (fun s wx => s = .int .i64 W0 ∧ wx = Y)
  case first =>
    by_cases h0 : wi = 0
    · obtain rfl : W0 = 2 := by have := HX.out.2; omega
      subst h0
      go_wp2_with fail
      go_meet
      exact ⟨rfl, rfl⟩
    · obtain rfl : W0 = 2 * wi := by have := HX.out.2; omega
      have h1 : (2 * wi == 0) = false := by simp; exact h0
      go_wp2_with fail
      go_meet
      exact ⟨rfl, rfl⟩
  case rest =>
  obtain ⟨rfl, hwc⟩ := hcut
  rw [hwc]
  clear hwc
  go_upto_if 82 with fail
  go_cut [7] (fun s wx => s = .int .i64 X ∧ wx = Y)
  case first =>
    by_cases h0 : M < W0
    · obtain rfl : X = M := by have := HX.out.1; omega
      go_wp2_with fail
      go_meet
      exact ⟨rfl, rfl⟩
    · obtain rfl : X = W0 := by have := HX.out.1; omega
      go_wp2_with fail
      go_meet
      exact ⟨rfl, rfl⟩
  case rest =>
  obtain ⟨rfl, hwc⟩ := hcut
  rw [hwc]
  clear hwc
  have HB2 : Hid (RAt (Y.setCell ⟨a, 5, none⟩ (.int .i64 X)) a ⟨n + 1, r + 1, X, e, B, R, M⟩ ∧ Sp [a] w (Y.setCell ⟨a, 5, none⟩ (.int .i64 X))) := ⟨heap_set HB.out.1 5 _, HB.out.2.set a 5 (by simp) _⟩
  obtain ⟨Z, hZ⟩ : ∃ Z, Z = Y.setCell ⟨a, 5, none⟩ (.int .i64 X) := ⟨_, rfl⟩
  rw [← hZ] at HB2
  have HZ := hid hZ
  have e0 := HB2.out.1.c0
  have e1 := HB2.out.1.c1
  have e3 := HB2.out.1.c3
  have e6 := HB2.out.1.c6
  have z6 := HB2.out.1.z 6
  rw [show nxS ⟨n + 1, r + 1, X, e, B, R, M⟩ = n + 1 from if_neg (show ¬ r + 1 = 0 by omega)] at e3
  simp only at e0 e1 e6
  clear hZ
  go_upto_region 19 with fail
  rw [← HZ.out]
  clear HZ d2' d5' z5' HB
  go_upto_if 100 with fail
  go_cut [8] (fun s wx => s = .int .i64 fr ∧ wx = Z)
  case first =>
    by_cases h0 : e < n + 1
    · obtain rfl : fr = n + 1 := by have := HF.out.2; omega
      go_wp2_with fail
      go_meet
      exact ⟨rfl, rfl⟩
    · obtain rfl : fr = e := by have := HF.out.2; omega
      go_wp2_with fail
      go_meet
      exact ⟨rfl, rfl⟩
  case rest =>
  obtain ⟨rfl, hwc⟩ := hcut
  rw [hwc]
  clear hwc
  obtain ⟨D, hD⟩ : ∃ D, D = rdI (n + 1 + X) R := ⟨_, rfl⟩
  have hr1 := rd_le (x := n + 1 + X) q8
  rw [← hD] at hr1
  obtain ⟨hr1, hr2⟩ := hr1
  have hR : (R == 0) = false := by simp; omega
  have HD := hid hD
  rw [← hD] at HF
  have HT := hid HF.out.1
  have hfr1 : n + 1 ≤ fr ∧ fr ≤ B := by have := HF.out.2; omega
  clear hD HF
  go_wp2_with fail
  go_loopw [9] (fun t wr => ∃ y : Int, t = .int .i64 y ∧ n + 1 + X ≤ y ∧ y ≤ D ∧ Hid (wr = Z)) (fun t _ => (D - intOf t).toNat)
  case atStart => exact ⟨_, rfl, by omega, hr1, rfl⟩
  case round =>
    obtain ⟨y, rfl, hy1, hy2, HQ⟩ := hrel
    obtain rfl := HQ.out
    clear HQ
    by_cases hm : y % R = 0
    · obtain rfl : y = D := by rw [HD.out]; exact rd_eq q8 hy1 (by rw [← HD.out]; exact hy2) hm
      have ht : (y % R != 0) = false := by simpa using hm
      clear hm HD
      go_upto_if 125 with fail
      go_cut [9] (fun s wx => s = .int .i64 tt ∧ wx = wr)
      case first =>
        by_cases h0 : B < y
        · obtain rfl : tt = B := by have := HT.out; omega
          go_wp2_with fail
          go_meet
          exact ⟨rfl, rfl⟩
        · obtain rfl : tt = y := by have := HT.out; omega
          go_wp2_with fail
          go_meet
          exact ⟨rfl, rfl⟩
      case rest =>
      obtain ⟨rfl, hwc⟩ := hcut
      rw [hwc]
      clear hwc HT
      rcases HE.out with ⟨p1, p2, p3, p4, p5⟩ | ⟨p1, p2, p3, p4, p5⟩
      · have HP := hid (And.intro p2 (And.intro p3 (And.intro p4 p5)))
        clear p2 p3 p4 p5 HE
        go_wp2
        refine bodyPost_ret (results_tmp3 rfl _ _ _) rfl ?_
        rw [HP.out.1, HP.out.2.1, HP.out.2.2.1, HP.out.2.2.2]
        exact ⟨rfl, HB2.out.1, HB2.out.2⟩
      · have HP := hid (And.intro p2 (And.intro p3 (And.intro p4 p5)))
        have p6 : ¬ tt ≤ fr := by omega
        clear p2 p3 p4 p5 HE
        go_wp2
        refine bodyPost_ret (results_tmp3 rfl _ _ _) rfl ?_
        rw [HP.out.1, HP.out.2.1, HP.out.2.2.1, HP.out.2.2.2]
        exact ⟨rfl, heap_set HB2.out.1 6 _, HB2.out.2.set a 6 (by simp) _⟩
    · have ht : (y % R != 0) = true := by simpa using hm
      have hs : y + 1 ≤ D := by rw [HD.out]; exact rd_step q8 (by rw [← HD.out]; exact hy2) hm
      clear hm HD
      go_wp2
      go_roundw
      case rel => exact ⟨y + 1, rfl, by omega, hs, trivial⟩
      case measure => simp [intOf]; omega

theorem rnote_any {w : World} {a : Nat} {S : AS} (h : RAt w a S) (hk : Ak S) (b : Int) : Calls Try.prog 12 #[.pointer (some ⟨a, 0, none⟩), .int .i64 b] w fun x w' => x = .returned (.tuple #[.int .i64 (ntF S b), .int .i64 (ntT S b), .bool (ntB S b)]) ∧ RAt w' a (ntS S b) ∧ Sp [a] w w' := by
  by_cases h0 : b < 0 ∨ S.B ≤ b
  · have hw := way0.2 h0
    rw [(nt_zero (by omega)).1, (nt_zero (by omega)).2, (nt_at _ hw).1, (nt_at _ hw).2]
    exact rnote0 h hk b hw
  · by_cases hn : S.r = 0 ∨ b ≠ S.n
    · have hw : wayS S b = 1 := way1.2 ⟨by omega, .inl (by rw [ask_new hn]; simp only; omega)⟩
      rw [(nt_zero (by omega)).1, (nt_zero (by omega)).2, (nt_at _ hw).1, (nt_at _ hw).2]
      exact rnoteN h hk b (by omega) (by omega) hn
    · obtain rfl : b = S.n := by
        by_cases e : b = S.n
        · exact e
        · exact absurd (.inr e) hn
      have hr : 1 ≤ S.r := by have := hk.r1; omega
      cases hf : farS (askS S S.n) with
      | true =>
        have hw : wayS S S.n = 1 := way1.2 ⟨by omega, .inr hf⟩
        rw [(nt_zero (by omega)).1, (nt_zero (by omega)).2, (nt_at _ hw).1, (nt_at _ hw).2]
        exact rnoteF h hk (by omega) hr hf
      | false => exact rnoteW h hk (by omega) hr hf
theorem rnewS_at (w : World) (B R M : Int) : RAt (w.alloc (.cells #[.int .i64 B, .int .i64 R, .int .i64 M, .int .i64 (-1), .int .i64 0, .int .i64 0, .int .i64 0] 41)) w.heap.size (newS B R M) := new_obj _ _ _
set_option maxRecDepth 100000 in
theorem rnew_ok (B R M : Int) (h : newOk B R M) (w : World) : Calls Try.prog 8 #[.int .i64 B, .int .i64 R, .int .i64 M] w fun x w' => ∃ a, x = .returned (.tuple #[.pointer (some ⟨a, 0, none⟩), .int .i64 0]) ∧ RAt w' a (newS B R M) ∧ Kp w w' ∧ w.heap.size ≤ a := by
  obtain ⟨⟨h1, h2⟩, ⟨h3, h4⟩, h5, h6⟩ := h
  have HN := hid (rnewS_at w B R M)
  go_enter Try.func8, Try.ntmps8
  go_wp2
  go_ret2
  exact ⟨_, rfl, HN.out, (Kp.refl w).alloc _, Nat.le_refl _⟩
set_option maxRecDepth 100000 in
theorem rnew_no (B R M : Int) (h : ¬ newOk B R M) (w : World) : Calls Try.prog 8 #[.int .i64 B, .int .i64 R, .int .i64 M] w fun x w' => x = .returned (.tuple #[.pointer none, .int .i64 2]) ∧ Kp w w' := by
  by_cases h1 : B < 1
  · clear h
    go_enter Try.func8, Try.ntmps8
    go_wp2
    go_ret2
    exact ⟨rfl, Kp.refl w⟩
  · by_cases h2 : 1099511627776 < B
    · clear h
      go_enter Try.func8, Try.ntmps8
      go_wp2
      go_ret2
      exact ⟨rfl, Kp.refl w⟩
    · by_cases h3 : R < 1
      · clear h
        go_enter Try.func8, Try.ntmps8
        go_wp2
        go_ret2
        exact ⟨rfl, Kp.refl w⟩
      · by_cases h4 : 32 < R
        · clear h
          go_enter Try.func8, Try.ntmps8
          go_wp2
          go_ret2
          exact ⟨rfl, Kp.refl w⟩
        · by_cases h5 : M < 1
          · clear h
            go_enter Try.func8, Try.ntmps8
            go_wp2
            go_ret2
            exact ⟨rfl, Kp.refl w⟩
          · have h6 : 64 < M := by unfold newOk at h; omega
            clear h
            go_enter Try.func8, Try.ntmps8
            go_wp2
            go_ret2
            exact ⟨rfl, Kp.refl w⟩

end Go.Proofs.Ytpeckfeiaomieaa
