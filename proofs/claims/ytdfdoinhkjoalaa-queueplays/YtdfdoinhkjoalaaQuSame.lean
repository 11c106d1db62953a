/-
  Contract of the law's same. Conditions: that both objects lie in memory, and are the same queue.
-/
import Derived.Test.YtdfdoinhkjoalaaQuPair
namespace Go.Proofs.Ytdfdoinhkjoalaa
open Go.RowKit Plain
set_option linter.unusedVariables false

theorem Oi.cells {w : World} {base : Nat} {e : TypeId} {v : Value} {l : List It} (h : Oi w base e v l) : ∃ p g cap, v = .slice p l.length cap ∧ (0 < l.length → p = some ⟨g, 0, none⟩) ∧ l.length ≤ cap ∧ cap ≤ 9223372036854775807 ∧ ∀ i, i < l.length → w.cell? ⟨g, i * 3, none⟩ = some (.int .i64 (l.getD i iz).b) ∧ w.cell? ⟨g, i * 3 + 1, none⟩ = some (.string (l.getD i iz).d) ∧ w.cell? ⟨g, i * 3 + 2, none⟩ = some (.int .i64 (l.getD i iz).g) := by
  rcases h.row with ⟨rfl, rfl⟩ | ⟨g, cap, cs, rfl, _, R, hle, hcm, ht⟩
  · exact ⟨none, 0, 0, rfl, fun h => absurd h (by simp), by simp, by omega, fun i hi => absurd hi (by simp)⟩
  · refine ⟨_, g, cap, rfl, fun _ => rfl, hle, by unfold maxLen at hcm; omega, fun i hi => ?_⟩
    have hq := iv_at l i hi
    refine ⟨?_, ?_, ?_⟩
    · rw [World.ownsRow.cellAt h (i * 3) (by omega)]; exact hq.1
    · rw [World.ownsRow.cellAt h (i * 3 + 1) (by omega)]; exact hq.2.1
    · rw [World.ownsRow.cellAt h (i * 3 + 2) (by omega)]; exact hq.2.2
set_option maxRecDepth 100000 in
set_option maxHeartbeats 4000000 in
theorem same_any {w0 w1 w : World} {q r : Nat} {T1 T2 : List Nat} {S R : QS} (hq : QX w0 w q T1 S) (hr : RX w1 w r T2 R) (P : Pq S R) : Calls Try.prog 18 #[.pointer (some ⟨q, 0, none⟩), .pointer (some ⟨r, 0, none⟩)] w fun e w' => e = .returned (.bool true) ∧ Kp w w' := by
  have HX : Hid (QX w0 w q T1 S ∧ RX w1 w r T2 R ∧ Pq S R) := ⟨hq, hr, P⟩
  have hI := qitems_any hq P.g.l
  clear hq hr P
  go_enter Try.func18, Try.ntmps18
  go_wp2_with fail
  refine hI.mono ?_; rintro e v1 ⟨u, rfl, ho1, k1⟩
  clear hI
  obtain ⟨hq, hr, P⟩ := HX.out
  have hSo := rsorted_any (hr.kept k1) P.l S.L P.g.sr P.p P.b
  have HO1 := hid (And.intro ho1 k1)
  clear hq hr P ho1 k1
  go_wp2_with fail
  refine hSo.mono ?_; rintro e v2 ⟨v, rfl, ho2, k2⟩
  clear hSo
  obtain ⟨hq, hr, P⟩ := HX.out
  have kk : Kp w v2 := HO1.out.2.trans k2
  obtain ⟨p1, g1, cap1, rfl, hp1, hle1, hcp1, cl1⟩ := (HO1.out.1.kept k2).cells
  obtain ⟨p2, g2, cap2, rfl, hp2, hle2, hcp2, cl2⟩ := ho2.cells
  have q2 := hq.kept kk
  have r2 := hr.kept kk
  obtain ⟨_, _, _, _, _, _, rc0, _, rc2, _, _⟩ := r2.cells
  have rc0 : v2.cell? ⟨r, 0, none⟩ = some (.int .i64 S.m) := by rw [← P.m]; exact rc0
  have rc2 : v2.cell? ⟨r, 2, none⟩ = some (.int .i64 S.c) := by rw [← P.c]; exact rc2
  have hLe := fun p => qlen_any (q2.kept (kpw_kp v2 p)) P.g.l
  have hCl := fun p => qclock_any (q2.kept (kpw_kp v2 p))
  have hFu := fun p => qfull_any (q2.kept (kpw_kp v2 p)) P.g.l P.g.m
  obtain ⟨n, hn⟩ : ∃ n, n = S.L.length := ⟨_, rfl⟩
  obtain ⟨m, hm⟩ : ∃ m, m = S.m := ⟨_, rfl⟩
  obtain ⟨c, hc⟩ : ∃ c, c = S.c := ⟨_, rfl⟩
  have hl : n ≤ 1000 := by rw [hn]; exact P.g.l
  have hm2 : m ≤ 1000 := by rw [hm]; exact P.g.m
  unfold qful at hFu
  rw [← hn] at hle1 hle2 hp1 hp2 hLe hFu ⊢
  rw [← hm] at rc0 hFu
  rw [← hc] at rc2 hCl
  have HC : Hid (∀ X, Kp v2 X → ∀ i, i < n → (X.cell? ⟨g1, i * 3, none⟩ = some (.int .i64 (S.L.getD i iz).b) ∧ X.cell? ⟨g1, i * 3 + 1, none⟩ = some (.string (S.L.getD i iz).d) ∧ X.cell? ⟨g1, i * 3 + 2, none⟩ = some (.int .i64 (S.L.getD i iz).g)) ∧ X.cell? ⟨g2, i * 3, none⟩ = some (.int .i64 (S.L.getD i iz).b) ∧ X.cell? ⟨g2, i * 3 + 1, none⟩ = some (.string (S.L.getD i iz).d) ∧ X.cell? ⟨g2, i * 3 + 2, none⟩ = some (.int .i64 (S.L.getD i iz).g)) := fun X k i hi => by
    obtain ⟨a0, a1, a2⟩ := cl1 i (by omega)
    obtain ⟨b0, b1, b2⟩ := cl2 i (by omega)
    exact ⟨⟨k.held a0, k.held a1, k.held a2⟩, k.held b0, k.held b1, k.held b2⟩
  have HP : Hid ((0 < n → p1 = some ⟨g1, 0, none⟩) ∧ (0 < n → p2 = some ⟨g2, 0, none⟩)) := ⟨hp1, hp2⟩
  have HK : Hid (Kp w v2) := kk
  have x0 := kpw_cell rc0
  have x2 := kpw_cell rc2
  clear hq hr P k2 kk ho2 cl1 cl2 q2 r2 hn hm hc hp1 hp2 HO1
  have key : ∀ f : Bool, decide (m ≤ n) = f → (∀ p, Calls Try.prog 25 #[.pointer (some ⟨q, 0, none⟩)] (kpw v2 p) fun e w' => e = .returned (.bool f) ∧ Kp (kpw v2 p) w') := fun f hf p => by
    have := hFu p
    rwa [hf] at this
  clear hFu
  go_upto_region 2 with fail
  go_cut [5, 6, 48] (fun a b f wx => a = .slice p1 n cap1 ∧ b = .slice p2 n cap2 ∧ f = .bool false ∧ Kp v2 wx)
  case first =>
    cases hf : decide (m ≤ n) <;>
    · have hFu := key _ hf
      refine wp_region_kp (by kernel_rfl) (by kernel_rfl) ?_
      repeat (first
        | go_big_quiet_skip
        | (go_big_quiet_want; go_big_quiet_op; go_big_quiet_on)
        | (go_big_quiet_want; go_big_quiet_op; apply Exists.intro; refine ⟨fun p => ?_, ?_⟩; (focus (first
            | (go_at_call 22; with_reducible exact kp_call (hLe _))
            | (go_at_call 25; with_reducible exact kp_call (hFu _))
            | (go_at_call 27; with_reducible exact kp_call (hCl _)))); go_big_quiet_on))
      refine wpQuiet_nil ?_
      rintro w7 ⟨p, hp⟩
      have K7 : Kp v2 w7 := by rw [hp]; exact kpw_kp _ p
      clear hp
      go_wp2_with fail
      go_meet
      exact ⟨rfl, rfl, rfl, K7⟩
  case rest =>
  obtain ⟨rfl, rfl, rfl, K3⟩ := hcut
  rename World => v3
  have HK3 := hid K3
  clear key hLe hCl x0 x2 rc0 rc2 K3
  go_wp2
  go_loopw [51] (fun i wr => ∃ k : Nat, i = .int .i64 k ∧ k ≤ n ∧ Hid (Kp v2 wr)) (fun i _ => n - (intOf i).toNat)
  case atStart => exact ⟨0, rfl, by omega, HK3⟩
  case round =>
    clear HK3
    obtain ⟨k, rfl, hk, HKr⟩ := hrel
    by_cases hkn : k < n
    · have hk3 : (k : Int) < (n : Int) := by omega
      obtain rfl := HP.out.1 (by omega)
      obtain rfl := HP.out.2 (by omega)
      obtain ⟨⟨a0, a1, a2⟩, b0, b1, b2⟩ := HC.out wr HKr.out k hkn
      obtain ⟨x, hx⟩ : ∃ x, x = S.L.getD k iz := ⟨_, rfl⟩
      rw [← hx] at a0 a1 a2 b0 b1 b2
      clear hx
      have y0 := kpw_cell a0
      have y1 := kpw_cell a1
      have y2 := kpw_cell a2
      have z0 := kpw_cell b0
      have z1 := kpw_cell b1
      have z2 := kpw_cell b2
      go_wp2_with fail
      refine wp_region_kp (by kernel_rfl) (by kernel_rfl) ?_
      repeat (first
        | go_big_quiet_skip
        | (go_big_quiet_want; go_big_quiet_op; go_big_quiet_on))
      refine wpQuiet_nil ?_
      rintro w7 ⟨p, hp⟩
      have K7 : Hid (Kp v2 w7) := by show Kp v2 w7; rw [hp]; exact HKr.out.trans (kpw_kp _ p)
      clear hp y0 y1 y2 z0 z1 z2 a0 a1 a2 b0 b1 b2 HKr
      go_wp2
      go_roundw
      case rel => exact ⟨k + 1, by go_num, by omega, K7⟩
      case measure => simp [intOf]; omega
    · rename World => v4
      obtain ⟨hq, hr, P⟩ := HX.out
      have kk := HK.out.trans HKr.out
      have hO1 := qold_any (hq.kept kk) P.g.l
      obtain ⟨x, hx⟩ : ∃ x, x = olI S.L := ⟨_, rfl⟩
      obtain ⟨f, hf⟩ : ∃ f, f = decide (0 < S.L.length) := ⟨_, rfl⟩
      rw [← hx, ← hf] at hO1
      have hO2 : ∀ X, Kp v4 X → Calls Try.prog 32 #[.pointer (some ⟨r, 0, none⟩)] X fun e w' => e = .returned (.tuple #[itV x, .bool f]) ∧ Kp X w' := fun X k => by
        have := rold_any ((hr.kept kk).kept k) P.l
        rwa [← P.old, ← hx, P.len, ← hf] at this
      have HKK := hid kk
      clear hq hr P kk hx hf HX HC HP HK HKr
      go_wp2_with fail
      refine hO1.mono ?_; rintro e y1 ⟨rfl, k1⟩
      clear hO1
      unfold itV
      obtain ⟨V1, hV1⟩ : ∃ V1, V1 = y1.alloc (.cells #[.int .i64 x.b, .string x.d, .int .i64 x.g] 31) := ⟨_, rfl⟩
      obtain ⟨H1, hH1⟩ : ∃ H1, H1 = y1.heap.size := ⟨_, rfl⟩
      have kV1 : Kp v4 V1 := by rw [hV1]; exact k1.alloc _
      have a0 : V1.cell? ⟨H1, 0, none⟩ = some (.int .i64 x.b) := by rw [hV1, hH1, World.cell?_alloc_at _ _ _ _ rfl]; rfl
      have a1 : V1.cell? ⟨H1, 1, none⟩ = some (.string x.d) := by rw [hV1, hH1, World.cell?_alloc_at _ _ _ _ rfl]; rfl
      have a2 : V1.cell? ⟨H1, 2, none⟩ = some (.int .i64 x.g) := by rw [hV1, hH1, World.cell?_alloc_at _ _ _ _ rfl]; rfl
      have HV1 : Hid (V1 = y1.alloc (.cells #[.int .i64 x.b, .string x.d, .int .i64 x.g] 31) ∧ H1 = y1.heap.size) := ⟨hV1, hH1⟩
      clear hV1 hH1 k1
      go_upto_region 11 with fail
      rw [← HV1.out.1, ← HV1.out.2]
      clear HV1
      go_wp2_with fail
      refine (hO2 V1 kV1).mono ?_; rintro e y2 ⟨rfl, k2⟩
      clear hO2
      unfold itV
      obtain ⟨V2, hV2⟩ : ∃ V2, V2 = y2.alloc (.cells #[.int .i64 x.b, .string x.d, .int .i64 x.g] 34) := ⟨_, rfl⟩
      obtain ⟨H2, hH2⟩ : ∃ H2, H2 = y2.heap.size := ⟨_, rfl⟩
      have kV2 : Kp V1 V2 := by rw [hV2]; exact k2.alloc _
      have d0 : V2.cell? ⟨H2, 0, none⟩ = some (.int .i64 x.b) := by rw [hV2, hH2, World.cell?_alloc_at _ _ _ _ rfl]; rfl
      have d1 : V2.cell? ⟨H2, 1, none⟩ = some (.string x.d) := by rw [hV2, hH2, World.cell?_alloc_at _ _ _ _ rfl]; rfl
      have d2 : V2.cell? ⟨H2, 2, none⟩ = some (.int .i64 x.g) := by rw [hV2, hH2, World.cell?_alloc_at _ _ _ _ rfl]; rfl
      have HV2 : Hid (V2 = y2.alloc (.cells #[.int .i64 x.b, .string x.d, .int .i64 x.g] 34) ∧ H2 = y2.heap.size) := ⟨hV2, hH2⟩
      have a0 := kV2.held a0
      have a1 := kV2.held a1
      have a2 := kV2.held a2
      have HE : Hid (Kp w V2) := (HKK.out.trans kV1).trans kV2
      clear hV2 hH2 k2 kV1 kV2 HKK
      go_upto_region 12 with fail
      rw [← HV2.out.1, ← HV2.out.2]
      clear HV2
      cases f <;>
      · go_wp2
        go_ret
        exact ⟨by simp, HE.out⟩

end Go.Proofs.Ytdfdoinhkjoalaa
