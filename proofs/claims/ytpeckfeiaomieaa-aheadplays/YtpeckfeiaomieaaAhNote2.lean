/-
  Contracts of Note where the window is widened, of Note as a whole, of New. Conditions: that the object lies in memory, and is as planners come.
-/
import Derived.Test.YtpeckfeiaomieaaAhNote
namespace Go.Proofs.Ytpeckfeiaomieaa
open Go.RowKit Plain
set_option linter.unusedVariables false

set_option maxRecDepth 100000 in
set_option maxHeartbeats 4000000 in
theorem note23 {w : World} {a : Nat} {S : AS} (h : At w a S) (hk : Ak S) (b : Int) (hw : wayS S b = 2 ∨ wayS S b = 3) : Calls Try.prog 11 #[.pointer (some ⟨a, 0, none⟩), .int .i64 b] w fun x w' => x = .returned (.tuple #[.agg #[.int .i64 (ntF S b), .int .i64 (ntT S b)], .bool (ntB S b)]) ∧ At w' a (ntS S b) ∧ Sp [a] w w' := by
  have N := Nb.new h
  have c4 := N.at_.c4
  have hw1 : (0 ≤ b ∧ b < S.B) ∧ (2 ≤ (askS S b).r ∧ farS (askS S b) = false) := by
    rcases hw with hw | hw
    · exact ⟨(way2.1 hw).1, (way2.1 hw).2.1⟩
    · exact ⟨(way3.1 hw).1, (way3.1 hw).2.1⟩
  obtain ⟨⟨hb1, hb2⟩, hr2, hf⟩ := hw1
  have hA := ask_any N.at_ hk b hb1 hb2
  have hk1 := hk.ask hb1 hb2
  obtain ⟨T, hT⟩ : ∃ T, T = askS S b := ⟨_, rfl⟩
  rw [← hT] at hA hk1 hr2 hf
  have hk2 := hk1.wid
  obtain ⟨U, hU⟩ : ∃ U, U = widS T := ⟨_, rfl⟩
  rw [← hU] at hk2
  have hto := hk2.to
  have hn1 := hk2.n1
  have hn2 := hk2.n2
  have hB2 := hk2.B2
  have he1 := hk2.e1
  obtain ⟨fr, hfr⟩ : ∃ x, x = frS U := ⟨_, rfl⟩
  obtain ⟨tt, hto2⟩ : ∃ x, x = toS U := ⟨_, rfl⟩
  rw [← hto2] at hto
  have hfr1 : 0 ≤ fr := by rw [hfr]; unfold frS; omega
  have hEnd : (wayS S b = 2 ∧ tt ≤ fr ∧ gdI fr tt = false) ∨ (wayS S b = 3 ∧ fr < tt ∧ gdI fr tt = true) := by
    rcases hw with hw | hw
    · have := (way2.1 hw).2.2
      rw [← hT, ← hU, ← hto2, ← hfr] at this
      exact .inl ⟨hw, this, gd_f (by omega)⟩
    · have := (way3.1 hw).2.2
      rw [← hT, ← hU, ← hto2, ← hfr] at this
      exact .inr ⟨hw, this, (gd_iff _ _).2 ⟨by omega, by omega, by omega⟩⟩
  have HE : Hid ((wayS S b = 2 ∧ ntF S b = 0 ∧ ntT S b = 0 ∧ ntB S b = false ∧ ntS S b = U ∧ gdI fr tt = false) ∨ (wayS S b = 3 ∧ ntF S b = fr ∧ ntT S b = tt ∧ ntB S b = true ∧ ntS S b = ⟨U.n, U.r, U.w, tt, U.B, U.R, U.M⟩ ∧ gdI fr tt = true)) := by
    rcases hEnd with ⟨q1, q2, q3⟩ | ⟨q1, q2, q3⟩
    · refine .inl ⟨q1, (nt_zero (by omega)).1, (nt_zero (by omega)).2, by rw [(nt_at _ q1).2]; rfl, ?_, q3⟩
      rw [(nt_at _ q1).1, hU, hT]; rfl
    · refine .inr ⟨q1, ?_, ?_, by rw [(nt_at _ q1).2]; rfl, ?_, q3⟩
      · rw [(nt_told q1).1, hfr, hU, hT]
      · rw [(nt_told q1).2, hto2, hU, hT]
      · rw [(nt_at _ q1).1, hto2, hU, hT]; rfl
  obtain ⟨W, hW⟩ : ∃ W, W = w.alloc (.cells #[.int .i64 0, .int .i64 0] 34) := ⟨_, rfl⟩
  obtain ⟨H, hH⟩ : ∃ H, H = w.heap.size := ⟨_, rfl⟩
  rw [← hW] at N c4 hA
  rw [← hH] at N
  have HN := hid N
  have HW : Hid (W = w.alloc (.cells #[.int .i64 0, .int .i64 0] 34) ∧ H = w.heap.size) := ⟨hW, hH⟩
  have HV : Hid (fr = frS U ∧ tt = toS U ∧ Ak U ∧ Ak T ∧ U = widS T) := ⟨hfr, hto2, hk2, hk1, hU⟩
  clear hW hH N h hk hEnd hw hto hn1 hn2 hB2 he1 hfr hto2 hfr1 hk1 hk2 hU hT
  go_enter Try.func11, Try.ntmps11
  go_upto_region 1 with fail
  rw [← HW.out.1, ← HW.out.2]
  go_wp2_with fail
  refine hA.mono ?_; rintro e w1 ⟨rfl, u1, s1⟩
  have N1 := HN.out.to s1 u1
  have d1 := N1.at_.c1
  have hF := far_any N1.at_ HV.out.2.2.2.1
  rw [hf] at hF
  have HN1 := hid N1
  have hr : ¬ T.r < 2 := by omega
  clear hA u1 s1 N1 HN hf hr2
  go_wp2_with fail
  refine hF.mono ?_; rintro e w2 ⟨rfl, k2⟩
  have N2 := HN1.out.kp k2
  have d6 := N2.at_.c6
  have hS1 : ∀ V, Kp w2 V → V.cell? ⟨a, 6, none⟩ = some (.int .i64 T.M) := fun V k => k.held d6
  have hWd : ∀ V, Kp w2 V → Calls Try.prog 21 #[.pointer (some ⟨a, 0, none⟩), .int .i64 T.M] V fun x w' => x = .returned (.tuple #[]) ∧ w'.cell? ⟨a, 6, none⟩ = some (.int .i64 T.M) ∧ At w' a U ∧ Sp [a] w2 w' := fun V k => by
    refine (widen_any (N2.at_.kp k) HV.out.2.2.2.1).mono ?_
    rintro e w' ⟨rfl, q1, q2⟩
    exact ⟨rfl, q1.c6, by rw [HV.out.2.2.2.2]; exact q1, (k.sp [a]).trans q2⟩
  have hr1 : Kp w2 w2.drew := (Kp.refl w2).drew
  have HN2 := hid N2
  clear hF k2 N2 HN1 d1
  go_wp2_with fail
  go_region_held3 (fun V => V.cell? ⟨a, 6, none⟩ = some (.int .i64 T.M)) (first | exact hS1 _ (by assumption) | assumption) (first
    | (go_at_call 21; refine (hWd _ (by assumption)).mono ?_; rintro e w3 ⟨rfl, m3, u3, s3⟩))
  have N3 := HN2.out.to s3 u3
  have hV := view_any N3.at_ HV.out.2.2.1
  rw [← HV.out.1, ← HV.out.2.1] at hV
  have HN3 := hid N3
  clear hS1 hWd hr1 HN2 m3 s3 u3 d6 N3
  go_wp2_with fail
  refine hV.mono ?_; rintro e w4 ⟨rfl, k4⟩
  obtain ⟨X, hX⟩ : ∃ X, X = w4.alloc (.cells #[.int .i64 fr, .int .i64 tt] 34) := ⟨_, rfl⟩
  obtain ⟨G, hG⟩ : ∃ G, G = w4.heap.size := ⟨_, rfl⟩
  have N4 := HN3.out.kp k4
  have hGa : H < G := by rw [hG]; exact heap_lt N4.hb
  have hGb : a < G := by rw [hG]; exact N4.at_.lt
  have N5 : Nb w X a H U := N4.kp (by rw [hX]; exact (Kp.refl w4).alloc _)
  have hB : X.heap[G]? = some (.cells #[.int .i64 fr, .int .i64 tt] 34 (0, 0)) := by rw [hX, hG]; exact new_obj _ _ _
  have f0 := cell_of hB 0
  have f1 := cell_of hB 1
  have hGd := good1_any fr tt X
  have HX : Hid (X = w4.alloc (.cells #[.int .i64 fr, .int .i64 tt] 34) ∧ G = w4.heap.size) := ⟨hX, hG⟩
  have HN5 : Hid (Nb w X a H U ∧ X.heap[G]? = some (.cells #[.int .i64 fr, .int .i64 tt] 34 (0, 0)) ∧ H < G ∧ a < G) := ⟨N5, hB, hGa, hGb⟩
  clear hV k4 N4 HN3 hX hG hGa hGb N5 hB
  go_upto_region 8 with fail
  rw [← HX.out.1, ← HX.out.2]
  clear HX
  rcases HE.out with ⟨_, q2, q3, q4, q5, q6⟩ | ⟨_, q2, q3, q4, q5, q6⟩
  · rw [q6] at hGd
    have HQ := hid (And.intro q2 (And.intro q3 (And.intro q4 q5)))
    clear HE q2 q3 q4 q5 q6
    go_wp2_with fail
    refine hGd.mono ?_; rintro e w5 ⟨rfl, k5⟩
    have N6 := HN5.out.1.kp k5
    obtain ⟨e0, e1, z0, z1⟩ := N6.cells
    have HP := hid (N6.put (.int .i64 0) (.int .i64 0))
    clear hGd N6 k5 HN5 f0 f1
    go_wp2
    refine bodyPost_ret (results_sp2 rfl _ _ H (.int .i64 0) (.int .i64 0) (.bool false) rfl rfl (cell_of HP.out.1 0) (cell_of HP.out.1 1)) rfl ?_
    rw [HQ.out.1, HQ.out.2.1, HQ.out.2.2.1, HQ.out.2.2.2]
    exact ⟨rfl, HP.out.2⟩
  · rw [q6] at hGd
    have HQ := hid (And.intro q2 (And.intro q3 (And.intro q4 q5)))
    clear HE q2 q3 q4 q5 q6
    go_wp2_with fail
    refine hGd.mono ?_; rintro e w5 ⟨rfl, k5⟩
    have N6 := HN5.out.1.kp k5
    have hB5 := (k5.block G (heap_lt HN5.out.2.1)).trans HN5.out.2.1
    have y3 := N6.at_.c3
    have zz3 := N6.at_.z 3
    obtain ⟨Y, hY⟩ : ∃ Y, Y = w5.setCell ⟨a, 3, none⟩ (.int .i64 tt) := ⟨_, rfl⟩
    have N7 : Nb w Y a H ⟨U.n, U.r, U.w, tt, U.B, U.R, U.M⟩ := N6.to (by rw [hY]; exact (Sp.refl [a] w5).set a 3 (by simp) _) (by rw [hY]; exact heap_set N6.at_ _ _)
    have hB7 : Y.heap[G]? = some (.cells #[.int .i64 fr, .int .i64 tt] 34 (0, 0)) := by
      have : Sp [a] w5 Y := by rw [hY]; exact (Sp.refl [a] w5).set a 3 (by simp) _
      exact (this.block G (heap_lt hB5) (by simp; have := HN5.out.2.2.2; omega)).trans hB5
    obtain ⟨e0, e1, z0, z1⟩ := N7.cells
    have g0 := cell_of hB7 0
    have g1 := cell_of hB7 1
    have h1 := cell_of hB5 1
    have HP := hid (N7.put (.int .i64 fr) (.int .i64 tt))
    have HY := hid hY
    clear hGd N6 k5 HN5 f0 f1 hB5 N7 hB7 hY
    go_upto_region 11 with fail
    rw [← HY.out]
    clear HY
    go_wp2
    refine bodyPost_ret (results_sp2 rfl _ _ H (.int .i64 fr) (.int .i64 tt) (.bool true) rfl rfl (cell_of HP.out.1 0) (cell_of HP.out.1 1)) rfl ?_
    rw [HQ.out.1, HQ.out.2.1, HQ.out.2.2.1, HQ.out.2.2.2]
    exact ⟨rfl, HP.out.2⟩

end Go.Proofs.Ytpeckfeiaomieaa
