/-
  RowLoads: for every input the law answers true, and its arguments read as before. The condition: the library's table reads as it is laid.
-/
import Derived.Test.YtonooelffokfkaaGreatDoorRows
import Derived.Test.YtonooelffokfkaaGreatDoorCards
import Derived.Test.YtonooelffokfkaaGreatDoorTie
import Derived.Test.YtonooelffokfkaaGreatDoorZSet
import Derived.Test.YtonooelffokfkaaGreatDoorZRwSx
import Derived.WalkKit
import Derived.ProofKit
import Derived.OpenShut
import Derived.ShutString
import Derived.LaidMore
import Derived.SevenTiedAt
import Derived.Stop.Joined
import Derived.Deep.DeepCutAuto
namespace Go.Proofs.YtonooelffokfkaaGreatDoor.rowLoads
open Go.ChangeShapes Go.WideShapes Go.ChangeAt Go.RowKit
open Go.ChangeMaps (open_string shut_string)
open Plain Go.BigFrame
set_option linter.unusedVariables false

theorem own : ownKnob Tryz.prog.godebug = none := by kernel_rfl
theorem laidOut : laidOutB Tryz.prog = true := by kernel_rfl
theorem cellsI : Tryz.prog.cellsOf 3 = 1 := by kernel_rfl
theorem cellsJ : Tryz.prog.cellsOf 54 = 2 := by kernel_rfl
theorem cellsK : Tryz.prog.cellsOf 45 = 3 := by kernel_rfl

set_option maxRecDepth 100000 in
set_option maxHeartbeats 8000000 in
theorem walk (w : World) (hT : Tab w) (m0 s0 : Int) (sv0 mv0 dv0 : Value) (st0 mk0 : List Int) (nd0 : Nat) (D0 : Nat → Nat) (a1 : Value) (l1 : List (Int × Int)) (a2 b2 c2 : Int) (w0 : Nl w sv0 st0) (x0 : Nl w mv0 mk0) (y0 : Bl w dv0 nd0 D0) (w1 : PrIn w a1 l1) (w2 : (Lit.int .i64 a2).wf = true) (x2 : (Lit.int .i64 b2).wf = true) (y2 : (Lit.int .i64 c2).wf = true) :
    Calls Tryz.prog 4 #[xV m0 s0 sv0 mv0 dv0, a1, .agg #[.int .i64 a2, .int .i64 b2, .int .i64 c2]] w fun e w' => e = .returned (.bool true) ∧ Kp w w' := by
  have ba := bounds_i64 w2
  have bb := bounds_i64 x2
  clear w2 x2 y2
  have hmax := @imax Tryz.prog
  have hmin := @imin Tryz.prog
  obtain ⟨da, dp, dm, hdv⟩ : ∃ a k n, dv0 = .slice a n k := by obtain ⟨a, g, o, cap, h, _⟩ := y0; exact ⟨a, cap, _, h⟩
  obtain ⟨ma, mp, mm_, hmv⟩ := x0.shape'
  obtain ⟨sa, sp_, sm_, hsv⟩ := w0.shape'
  have hl := fun w' (k : Kp w w') => labels_any m0 s0 sv0 mv0 dv0 st0 mk0 w' (w0.kept k) (x0.kept k) ⟨_, _, _, hdv⟩
  have hn := suN_bd m0
  have hs := suS_bd s0
  obtain ⟨N, eN⟩ : ∃ N : Nat, suN m0 = N := ⟨(suN m0).toNat, by omega⟩
  obtain ⟨S, eS⟩ : ∃ S : Nat, suS s0 = S := ⟨(suS s0).toNat, by omega⟩
  rw [eN] at hn
  rw [eS] at hs
  have hN4 : 4 ≤ N := by omega
  have hN8 : N ≤ 8 := by omega
  have hS1 : 1 ≤ S := by omega
  have hS6 : S ≤ 6 := by omega
  rw [eN, eS] at hl
  have hb := fun v3 v4 w' (k : Kp w w') => bays_any m0 s0 sv0 mv0 dv0 nd0 D0 N S hN4 hN8 hS1 hS6 v3 v4 w' ⟨_, _, _, hsv⟩ ⟨_, _, _, hmv⟩ (y0.kept k)
  have hBa := ba_all N (atB nd0 D0) hN4 hN8 S (by omega)
  have HLe : Hid ((suL m0 s0 st0 mk0).n = (N : Int) ∧ (suL m0 s0 st0 mk0).s = (S : Int) ∧ (suL m0 s0 st0 mk0).ep = 1) := ⟨eN, eS, rfl⟩
  obtain ⟨L, eL⟩ : ∃ L, L = suL m0 s0 st0 mk0 := ⟨_, rfl⟩
  rw [← eL] at hl HLe
  obtain ⟨B0, eB0⟩ : ∃ B, B = baB N (atB nd0 D0) S := ⟨_, rfl⟩
  rw [← eB0] at hb hBa
  have HB0 : Hid (B0.ms.length = N ∧ B0.g = 0) := ⟨hBa.len, hBa.g⟩
  subst hdv hmv hsv
  obtain ⟨pa, pg, po, pc, rfl, p1, p2, p3, p4⟩ := w1
  obtain ⟨ln, hln⟩ : ∃ n, n = l1.length := ⟨_, rfl⟩
  rw [← hln] at p1 p3 p4 ⊢
  have HPa : Hid (0 < ln → pa = some ⟨pg, po, none⟩) := p3
  have HPr : Hid (∀ i, i < ln → w.cell? ⟨pg, po + i * 2, none⟩ = some (.int .i64 (l1.getD i (0, 0)).1) ∧ w.cell? ⟨pg, po + i * 2 + 1, none⟩ = some (.int .i64 (l1.getD i (0, 0)).2) ∧ (Lit.int .i64 (l1.getD i (0, 0)).1).wf = true ∧ (Lit.int .i64 (l1.getD i (0, 0)).2).wf = true) := p4
  have p2' : pc ≤ 9223372036854775807 := by unfold maxLen at p2; omega
  clear hBa eL eB0 eN eS hn hs y0 x0 w0 p2 p3 p4 hln
  unfold lV at hl hb
  go_enter Tryz.func4, Tryz.ntmps4
  go_wp2_with fail
  refine (hl _ (((Kp.refl w).alloc _).alloc _)).mono ?_; rintro e u1 ⟨v1, v2, v3, v4, rfl, ⟨n1, n2, n3, n4⟩, k1⟩
  obtain ⟨a1_, c1_, m1_, rfl⟩ := n1.shape'
  obtain ⟨a2_, c2_, m2_, rfl⟩ := n2.shape'
  obtain ⟨a3_, c3_, m3_, rfl⟩ := n3.shape'
  obtain ⟨a4_, c4_, m4_, rfl⟩ := n4.shape'
  have xx : ∀ j v, [Value.int .i64 m0, .int .i64 s0, .slice sa sm_ sp_, .slice ma mm_ mp, .slice da dm dp][j]? = some v → u1.cell? ⟨w.heap.size, j, none⟩ = some v := fun j v hv => k1.held (((Kp.refl _).alloc _).held (by
    rw [World.cell?_alloc_at _ _ _ _ rfl]
    simpa using hv))
  have y0 := xx 0 _ rfl
  have y1 := xx 1 _ rfl
  have y2 := xx 2 _ rfl
  have y3 := xx 3 _ rfl
  have y4 := xx 4 _ rfl
  have hwho : u1.cell? ⟨w.heap.size + 1, 0, none⟩ = some (.int .i64 a2) ∧ u1.cell? ⟨w.heap.size + 1, 1, none⟩ = some (.int .i64 b2) ∧ u1.cell? ⟨w.heap.size + 1, 2, none⟩ = some (.int .i64 c2) := by
    refine ⟨k1.held ?_, k1.held ?_, k1.held ?_⟩ <;> (rw [World.cell?_alloc_at _ _ _ _ (by simp)]; rfl)
  have K1 : Hid (Kp w u1) := (((Kp.refl w).alloc _).alloc _).trans k1
  have hs1 : w.heap.size < u1.heap.size := World.block_lt_of_cell? _ _ y0
  have N1 := hid n1
  have N2 := hid n2
  have N3 := hid n3
  have N4 := hid n4
  clear hl k1 xx n1 n2 n3 n4
  go_wp2_with fail
  obtain ⟨W, hW⟩ : ∃ W, W = (u1.alloc (.cells #[.int .i64 (N : Int), .int .i64 (S : Int), .int .i64 1, .slice a1_ m1_ c1_, .slice a2_ m2_ c2_] 30)).alloc (.cells #[.int .i64 (N : Int), .int .i64 (S : Int), .int .i64 1, .slice a3_ m3_ c3_, .slice a4_ m4_ c4_] 33) := ⟨_, rfl⟩
  have KW : Hid (Kp w W) := by show Kp w W; rw [hW]; exact (K1.out.alloc _).alloc _
  have KW1 : Kp u1 W := by rw [hW]; exact ((Kp.refl u1).alloc _).alloc _
  have LcW : Hid (Lc W u1.heap.size N S 1 (.slice a1_ m1_ c1_) (.slice a2_ m2_ c2_)) := by
    show Lc W _ _ _ _ _ _
    rw [hW]; exact (Lc.new u1 N S 1 _ _ _).kept ((Kp.refl _).alloc _)
  have LdW : Hid (Lc W (u1.heap.size + 1) N S 1 (.slice a3_ m3_ c3_) (.slice a4_ m4_ c4_)) := by
    show Lc W _ _ _ _ _ _
    have := Lc.new (u1.alloc (.cells #[.int .i64 (N : Int), .int .i64 (S : Int), .int .i64 1, .slice a1_ m1_ c1_, .slice a2_ m2_ c2_] 30)) N S 1 (.slice a3_ m3_ c3_) (.slice a4_ m4_ c4_) 33
    rw [← hW, show (u1.alloc (.cells #[.int .i64 (N : Int), .int .i64 (S : Int), .int .i64 1, .slice a1_ m1_ c1_, .slice a2_ m2_ c2_] 30)).heap.size = u1.heap.size + 1 by simp] at this
    exact this
  have NW : Hid (Nl W (.slice a1_ m1_ c1_) L.sts ∧ Nl W (.slice a2_ m2_ c2_) L.mks) := ⟨N1.out.kept KW1, N2.out.kept KW1⟩
  have NX : Hid (Nl W (.slice a3_ m3_ c3_) L.sts ∧ Nl W (.slice a4_ m4_ c4_) L.mks) := ⟨N3.out.kept KW1, N4.out.kept KW1⟩
  have HTW : Hid (Tab W) := hT.kp KW.out
  have HWho : Hid (∀ V, Kp W V → V.cell? ⟨w.heap.size + 1, 0, none⟩ = some (.int .i64 a2) ∧ V.cell? ⟨w.heap.size + 1, 1, none⟩ = some (.int .i64 b2) ∧ V.cell? ⟨w.heap.size + 1, 2, none⟩ = some (.int .i64 c2)) := fun V q => ⟨(KW1.trans q).held hwho.1, (KW1.trans q).held hwho.2.1, (KW1.trans q).held hwho.2.2⟩
  have HPW : Hid (∀ V, Kp W V → ∀ i, i < ln → V.cell? ⟨pg, po + i * 2, none⟩ = some (.int .i64 (l1.getD i (0, 0)).1) ∧ V.cell? ⟨pg, po + i * 2 + 1, none⟩ = some (.int .i64 (l1.getD i (0, 0)).2)) := fun V q i hi => ⟨(KW.out.trans q).held (HPr.out i hi).1, (KW.out.trans q).held (HPr.out i hi).2.1⟩
  clear hwho
  rw [← hW]
  clear hW KW1 K1 N1 N2 N3 N4 y0 y1 y2 y3 y4 hs1
  refine (hb _ _ _ KW.out).mono ?_; rintro e u2 ⟨b, y, T0, rfl, ⟨T, R, rfl, oB, oD, dj⟩, k2⟩
  have K2 := hid k2
  have HoB := hid oB
  have HoD := hid oD
  have Hdj := hid dj
  obtain ⟨mm, mcap, z0, P0, d0, _, ⟨d1, d2⟩, _⟩ := dw_mem oD k2 (i := 0) (if_pos ⟨by omega, by rw [HB0.out.1]; omega⟩) (by rw [HB0.out.2]; omega)
  rw [HB0.out.1] at d0 d1
  have cW := fun V (q : Kp u2 V) => (wakes16 V (HTW.out.kp (K2.out.trans q))).mono fun e V' (h : e = .returned (.bool true) ∧ Kp V V') => (⟨h.1, q.trans h.2⟩ : e = .returned (.bool true) ∧ Kp u2 V')
  have cZ := fun V (q : Kp u2 V) => (bw_size (OL.bw.sp HoB.out (q.sp []) (fun _ _ h => by cases h))).mono fun e V' (h : e = .returned (.int .i64 (B0.ms.length : Int)) ∧ V' = V) => (⟨h.1, by rw [h.2]; exact q⟩ : e = .returned (.int .i64 (B0.ms.length : Int)) ∧ Kp u2 V')
  rw [HB0.out.1] at cZ
  have hS : ∀ V, Kp u2 V → V.cell? ⟨y, 0, none⟩ = some (.slice (some ⟨mm, 0, none⟩) N mcap) := fun V q => q.held d0
  have hr0 : Kp u2 u2.drew := (Kp.refl u2).drew
  have w1_ := hS _ hr0
  clear hb oD dj oB k2 d0
  go_wp2_with fail
  go_region_held3 (fun V => V.cell? ⟨y, 0, none⟩ = some (.slice (some ⟨mm, 0, none⟩) N mcap)) (exact hS _ (by assumption)) (first
    | (go_at_call 12; refine (cW _ (by assumption)).mono ?_; rintro e ua ⟨rfl, ka⟩; have wa1 := hS _ ka)
    | (go_at_call 14; refine (cZ _ (by assumption)).mono ?_; rintro e ub ⟨rfl, kb⟩; have wb1 := hS _ kb))
  obtain ⟨U, hU⟩ : ∃ U, U = ub := ⟨_, rfl⟩
  have KU : Hid (Kp W U) := by show Kp W U; rw [hU]; exact K2.out.trans kb
  have HoB1 : Hid (Bw W U b T B0) := by show Bw W U b T B0; rw [hU]; exact OL.bw.sp HoB.out (kb.sp []) (fun _ _ h => by cases h)
  have HoD1 : Hid (Dw W U y R B0) := by show Dw W U y R B0; rw [hU]; exact OL.dw.sp HoD.out (kb.sp []) (fun _ _ h => by cases h)
  rw [← hU]
  clear cW cZ hS hr0 w1_ wa1 wb1 ka kb HoB HoD hU d1 d2
  obtain ⟨kk, ekk⟩ : ∃ k, k = min ln 5 := ⟨_, rfl⟩
  have hkk : min (ln : Int) 5 = (kk : Int) := by omega
  have hk1 : kk ≤ ln := by omega
  have hk5 : kk ≤ 5 := by omega
  clear ekk
  go_upto_region 5 with fail
  go_cut [63, 64, 65] (fun p q i wx => ∃ a', p = .slice a' kk pc ∧ q = .int .i64 (kk : Int) ∧ i = .int .i64 ((0 : Nat) : Int) ∧ (0 < kk → a' = some ⟨pg, po, none⟩) ∧ U = wx)
  case first =>
    by_cases h0 : 0 < ln
    · obtain rfl := HPa.out h0
      go_wp2_with fail
      go_meet
      exact ⟨_, rfl, rfl, rfl, fun _ => rfl, rfl⟩
    · have hn0 : ln = 0 := by omega
      subst hn0
      obtain rfl : kk = 0 := by omega
      cases pa with
      | none =>
        go_wp2_with fail
        go_meet
        exact ⟨_, rfl, rfl, rfl, fun h => absurd h (by omega), rfl⟩
      | some ad =>
        go_wp2_with fail
        go_meet
        exact ⟨_, rfl, rfl, rfl, fun h => absurd h (by omega), rfl⟩
  case rest =>
  obtain ⟨a', rfl, rfl, rfl, ha', rfl⟩ := hcut
  go_wp2_with fail
  go_loopw [65] (fun i wr => ∃ (k : Nat) (B : BS) (T' R' : List Nat), k ≤ kk ∧ i = .int .i64 k ∧ Hid (Bw W wr b T' B) ∧ Hid (Dw W wr y R' B) ∧ Hid (Dj T' R') ∧ Hid (B.ms.length = N ∧ B.g = 0) ∧ Hid (Kp W wr)) (fun i _ => kk - (intOf i).toNat)
  case atStart => exact ⟨0, B0, T, R, by omega, by go_num, HoB1, HoD1, Hdj, HB0, KU⟩
  case round =>
    clear HoB1 HoD1 Hdj HB0 KU
    obtain ⟨k, B, T', R', hk, rfl, HB, HD, HJ, HBf, HK⟩ := hrel
    by_cases hlt : k < kk
    · obtain rfl := ha' (by omega)
      obtain ⟨c0, c1⟩ := HPW.out wr HK.out k (by omega)
      obtain ⟨z, ez⟩ : ∃ z, z = (l1.getD k (0, 0)).1 := ⟨_, rfl⟩
      obtain ⟨z', ez'⟩ : ∃ z, z = (l1.getD k (0, 0)).2 := ⟨_, rfl⟩
      rw [← ez] at c0
      rw [← ez'] at c1
      have bz := bounds_i64 (HPr.out k (by omega)).2.2.1
      have bz' := bounds_i64 (HPr.out k (by omega)).2.2.2
      rw [← ez] at bz
      rw [← ez'] at bz'
      have tm : (max 0 z).tmod (N : Int) = (max 0 z) % (N : Int) := Int.tmod_eq_emod_of_nonneg (by omega)
      have hN0 : ((N : Int) == 0) = false := beq_eq_false_iff_ne.2 (by omega)
      have hN00 : ¬ (N : Int) = 0 := by omega
      have hNz : ¬ N = 0 := by omega
      have tp := Int.emod_nonneg (max 0 z) (show (N : Int) ≠ 0 by omega)
      have tq := Int.emod_lt_of_pos (max 0 z) (show 0 < (N : Int) by omega)
      obtain ⟨m, em⟩ : ∃ m : Nat, (max 0 z) % (N : Int) = m := ⟨((max 0 z) % (N : Int)).toNat, by omega⟩
      rw [em] at tm tp tq
      have hm : m < N := by omega
      have em2 := em
      have hfd : fdE B m = 0 := if_pos ⟨by omega, by rw [HBf.out.1]; omega⟩
      obtain ⟨V, hV⟩ : ∃ V, V = wr.alloc (.cells #[.int .i64 z, .int .i64 z'] 54) := ⟨_, rfl⟩
      obtain ⟨H, hH⟩ : ∃ H, H = wr.heap.size := ⟨_, rfl⟩
      have e0 : V.cell? ⟨H, 0, none⟩ = some (.int .i64 z) := by rw [hV, hH, World.cell?_alloc_at _ _ _ _ rfl]; rfl
      have e1 : V.cell? ⟨H, 1, none⟩ = some (.int .i64 z') := by rw [hV, hH, World.cell?_alloc_at _ _ _ _ rfl]; rfl
      have kV : Hid (Kp wr V) := by show Kp wr V; rw [hV]; exact (Kp.refl wr).alloc _
      have HHn : Hid (H ∉ T' ++ R') := fun hm => by
        rcases List.mem_append.1 hm with h | h
        · have := OL.bw.low HB.out H h; omega
        · have := OL.dw.low HD.out H h; omega
      have HV : Hid (V = wr.alloc (.cells #[.int .i64 z, .int .i64 z'] 54) ∧ H = wr.heap.size) := ⟨hV, hH⟩
      clear ez ez' hV hH tp tq
      go_upto_region 8 with fail
      rw [← HV.out.1, ← HV.out.2]
      clear HV c0 c1
      have hst := fun p => bw_size (OL.bw.sp HB.out ((kV.out.trans (kpw_kp V p)).sp []) (fun _ _ h => by cases h))
      rw [HBf.out.1] at hst
      have y1 := kpw_cell e0
      refine wp_region_kp (by kernel_rfl) (by kernel_rfl) ?_
      repeat (first
        | go_big_quiet_skip
        | (go_big_quiet_want; go_big_quiet_op; go_big_quiet_on)
        | (go_big_quiet_want; go_big_quiet_op; apply Exists.intro; refine ⟨fun p => ?_, ?_⟩; (focus
            first
            | (go_at_call 14; exact kp_same (hst _))); go_big_quiet_on))
      refine wpQuiet_nil ?_
      rintro va ⟨p, hp9⟩
      have ka : Kp V va := by rw [hp9]; exact kpw_kp V p
      clear hp9 y1 hst
      have HBa : Hid (Bw W va b T' B) := OL.bw.sp HB.out ((kV.out.trans ka).sp []) (fun _ _ h => by cases h)
      have HDa : Hid (Dw W va y R' B) := OL.dw.sp HD.out ((kV.out.trans ka).sp []) (fun _ _ h => by cases h)
      have HKa : Hid (Kp W va) := (HK.out.trans kV.out).trans ka
      have a1c := ka.held e1
      have hsva : H < va.heap.size := World.block_lt_of_cell? _ _ a1c
      have hq1 := mask1w z'
      clear e0 e1 ka kV HB HD HK em em2 tm
      rcases Int.emod_two_eq z' with h2 | h2
      · as_aux_lemma =>
        rw [h2] at hq1
        obtain ⟨x, hMem, _, hFail⟩ := bw_mem HBa.out HKa.out hfd
        obtain ⟨B5, eB5⟩ : ∃ B5, B5 = put B (m : Int) (fa (bm B (m : Int))) := ⟨_, rfl⟩
        rw [← eB5] at hFail
        have HBf5 : Hid (B5.ms.length = N ∧ B5.g = 0) := by
          show B5.ms.length = N ∧ B5.g = 0
          rw [eB5]
          exact ⟨by show (B.ms.set _ _).length = N; rw [List.length_set]; exact HBf.out.1, HBf.out.2⟩
        have HeB5 := hid eB5
        clear eB5
        go_wp2_with fail
        refine hMem.mono ?_; rintro e va' ⟨rfl, rfl⟩
        go_wp2_with fail
        refine hFail.mono ?_; rintro e v5 ⟨rfl, n5⟩
        have bx5 := Both.first OL.bw OL.dw (x := b) HDa.out HJ.out n5
        have HK5 : Hid (Kp W v5) := bx5.below HKa.out (fun x hx => (Both.new OL.bw OL.dw ⟨T', R', rfl, HBa.out, HDa.out, HJ.out⟩) x hx)
        obtain ⟨T4, ⟨P4, R4, rfl, oP4, oR4, dj4⟩, sp4, nw4⟩ := bx5
        obtain ⟨m', cap', zz, P5, d0, d3, ⟨d1, d2⟩, _, _, hFail2⟩ := dw_mem oR4 HK5.out hfd (by rw [HBf.out.2]; omega)
        rw [HBf.out.1] at d0 d1
        rw [Int.toNat_natCast] at d3
        have hF2 := hFail2 v5 (Kp.refl _)
        rw [← HeB5.out] at hF2
        have HoP4 := hid oP4
        have Hdj4 := hid dj4
        clear hFail2 oP4 dj4 sp4 nw4 hMem hFail n5 HBa HDa HJ hfd
        go_wp2_with fail
        refine hF2.mono ?_; rintro e v6 ⟨rfl, n6, _⟩
        have bx6 := Both.second OL.bw OL.dw (y := y) HoP4.out Hdj4.out n6
        have HK6 : Hid (Kp W v6) := bx6.below HK5.out (fun x hx => (Both.new OL.bw OL.dw ⟨P4, R4, rfl, HoP4.out, oR4, Hdj4.out⟩) x hx)
        obtain ⟨T6, ⟨P6, R6, rfl, oP6, oR6, dj6⟩, _, _⟩ := bx6
        have HoP6 := hid oP6
        have HoR6 := hid oR6
        have Hdj6 := hid dj6
        clear oP6 oR6 dj6 hF2 d0 d3 oR4 n6
        go_wp2
        go_roundw
        case rel => exact ⟨k + 1, B5, P6, R6, by omega, by go_num, HoP6, HoR6, Hdj6, HBf5, HK6⟩
        case measure => simp [intOf]; omega
      · as_aux_lemma =>
        rw [h2] at hq1
        obtain ⟨d, ed⟩ : ∃ d : Nat, z' / 2 % 256 = (d : Int) := ⟨(z' / 2 % 256).toNat, by omega⟩
        have hd : d < 256 := by omega
        have hSc := sector_any d hd false va
        have hq3 := mask3w z'
        obtain ⟨q, eq⟩ : ∃ q : Nat, z' % 4 = (q : Int) := ⟨(z' % 4).toNat, by omega⟩
        rw [eq] at hq3
        have hw100 : IntKind.i64.wrap (100 + (q : Int)) = 100 + (q : Int) := by rw [IntKind.wrap_i64]; omega
        have hq4 : q < 4 := by omega
        obtain ⟨sx, esx⟩ : ∃ s, s = scS d false := ⟨_, rfl⟩
        rw [← esx] at hSc
        clear eq esx
        go_wp2_with fail
        first | refine hSc.mono ?_ | (rw [ed]; refine hSc.mono ?_)
        rintro e vb ⟨rfl, kb⟩
        have kd : Kp vb vb.drew := (Kp.refl vb).drew
        have hBb := OL.bw.sp HBa.out ((kb.trans kd).sp []) (fun _ _ h => by cases h)
        have HDb : Hid (Dw W vb.drew y R' B) := OL.dw.sp HDa.out ((kb.trans kd).sp []) (fun _ _ h => by cases h)
        have HKb : Hid (Kp W vb.drew) := HKa.out.trans (kb.trans kd)
        have HBb := hid hBb
        obtain ⟨x, hMem, hRot, _⟩ := bw_mem hBb HKb.out hfd
        have hRk := hRot (100 + (q : Int)) sx
        obtain ⟨B5, eB5⟩ : ∃ B5, B5 = put B (m : Int) (rt (bm B (m : Int)) (100 + (q : Int)) sx) := ⟨_, rfl⟩
        rw [← eB5] at hRk
        obtain ⟨rb, erb⟩ : ∃ x, x = rtB (bm B (m : Int)) (100 + (q : Int)) sx := ⟨_, rfl⟩
        rw [← erb] at hRk
        have HBf5 : Hid (B5.ms.length = N ∧ B5.g = 0) := by
          show B5.ms.length = N ∧ B5.g = 0
          rw [eB5]
          exact ⟨by show (B.ms.set _ _).length = N; rw [List.length_set]; exact HBf.out.1, HBf.out.2⟩
        have HeB5 := hid eB5
        have Herb := hid erb
        have a1b := kb.held a1c
        have a1d := kd.held a1b
        have hS1 : ∀ X, Kp vb X → X.cell? ⟨H, 1, none⟩ = some (.int .i64 z') := fun X k => k.held a1b
        have hS2 : ∀ X, Nz Bw W vb.drew X b T' B5 → X.cell? ⟨H, 1, none⟩ = some (.int .i64 z') := fun X ⟨_, _, s, _⟩ => s.held a1d (fun h => HHn.out (List.mem_append_left _ h))
        clear hSc hRot eB5 erb hBb HBa HDa HKa a1c ed hd
        go_wp2_with fail
        go_region_held3 (fun X => X.cell? ⟨H, 1, none⟩ = some (.int .i64 z')) (first | exact hS1 _ (Kp.refl _) | exact hS1 _ kd | exact hS2 _ n5) (first
          | (go_at_call 15; refine hMem.mono ?_; rintro e vc ⟨rfl, rfl⟩)
          | (go_at_call 19; refine hRk.mono ?_; rintro e v5 ⟨rfl, n5⟩))
        have b1 := hS2 _ n5
        have bx5 := Both.first OL.bw OL.dw (x := b) HDb.out HJ.out n5
        have HK5 : Hid (Kp W v5) := bx5.below HKb.out (fun x hx => (Both.new OL.bw OL.dw ⟨T', R', rfl, HBb.out, HDb.out, HJ.out⟩) x hx)
        obtain ⟨T4, ⟨P4, R4, rfl, oP4, oR4, dj4⟩, sp4, nw4⟩ := bx5
        have hsv : H < vb.drew.heap.size := World.block_lt_of_cell? _ _ a1d
        have hH4 : H ∉ P4 ++ R4 := nw_out nw4 hsv HHn.out
        obtain ⟨m', cap', zz, P5, d0, d3, ⟨d1, d2⟩, ⟨p51, p52, p53⟩, hRot2, _⟩ := dw_mem oR4 HK5.out hfd (by rw [HBf.out.2]; omega)
        rw [HBf.out.1] at d0 d1
        rw [Int.toNat_natCast] at d3
        have hRk2 := fun w1 (k1 : Kp v5 w1) => hRot2 (100 + (q : Int)) sx w1 k1
        rw [← HeB5.out, ← Herb.out] at hRk2
        have HoP4 := hid oP4
        have Hdj4 := hid dj4
        have HoR4 := hid oR4
        have hH5 : Hid (H ∉ P5) := fun h => hH4 (List.mem_append_right _ (p53 _ h))
        have Hy5 : Hid (y ∉ P5 ∧ m' ∉ P5) := ⟨p51, p52⟩
        have kd5 : Kp v5 v5.drew := (Kp.refl v5).drew
        have hT1 : ∀ X, Kp v5 X → X.cell? ⟨y, 0, none⟩ = some (.slice (some ⟨m', 0, none⟩) N cap') ∧ X.cell? ⟨m', m, none⟩ = some (.pointer (some ⟨zz, 0, none⟩)) ∧ X.cell? ⟨H, 1, none⟩ = some (.int .i64 z') := fun X k => ⟨k.held d0, k.held d3, k.held b1⟩
        have hT2 : ∀ X, Sp P5 v5 X → X.cell? ⟨y, 0, none⟩ = some (.slice (some ⟨m', 0, none⟩) N cap') ∧ X.cell? ⟨m', m, none⟩ = some (.pointer (some ⟨zz, 0, none⟩)) ∧ X.cell? ⟨H, 1, none⟩ = some (.int .i64 z') := fun X k => ⟨k.held d0 Hy5.out.1, k.held d3 Hy5.out.2, k.held b1 hH5.out⟩
        clear hRot2 oR4 oP4 dj4 sp4 nw4 n5 hMem hRk p51 p52 p53 hH4 hS1 hS2 a1b a1d b1 d0 d3 HBb HDb HJ HKb kd kb
        go_wp2_with fail
        go_region_held3 (fun X => X.cell? ⟨y, 0, none⟩ = some (.slice (some ⟨m', 0, none⟩) N cap') ∧ X.cell? ⟨m', m, none⟩ = some (.pointer (some ⟨zz, 0, none⟩)) ∧ X.cell? ⟨H, 1, none⟩ = some (.int .i64 z')) (first | exact hT1 _ (Kp.refl _) | exact hT1 _ kd5 | exact hT2 _ s6) (first
          | (go_at_call 20; refine (hRk2 _ kd5).mono ?_; rintro e v6 ⟨rfl, n6, s6⟩))
        have bx6 := Both.second OL.bw OL.dw (y := y) HoP4.out Hdj4.out n6
        have HK6 : Hid (Kp W v6) := bx6.below HK5.out (fun x hx => (Both.new OL.bw OL.dw ⟨P4, R4, rfl, HoP4.out, HoR4.out, Hdj4.out⟩) x hx)
        obtain ⟨T6, ⟨P6, R6, rfl, oP6, oR6, dj6⟩, _, _⟩ := bx6
        have HoP6 := hid oP6
        have HoR6 := hid oR6
        have Hdj6 := hid dj6
        clear oP6 oR6 dj6 n6 s6 hT1 hT2 hRk2 kd5
        go_wp2
        go_roundw
        case rel => exact ⟨k + 1, B5, P6, R6, by omega, by go_num, HoP6, HoR6, Hdj6, HBf5, HK6⟩
        case measure => simp [intOf]; omega
    · as_aux_lemma =>
      obtain ⟨g0, g1, g2⟩ := HWho.out wr HK.out
      clear HPW HPr
      go_upto_if 121 with fail
      go_cut [2, 9] (fun s v wx => s = .agg #[.int .i64 a2, .int .i64 b2, .int .i64 c2] ∧ v = .pointer (some ⟨b, 0, none⟩) ∧ ∃ (B1 : BS) (T1 R1 : List Nat), Hid (Bw W wx b T1 B1) ∧ Hid (Dw W wx y R1 B1) ∧ Hid (Dj T1 R1) ∧ Hid (Kp W wx))
      case first =>
        by_cases h7 : c2 = 7
        · as_aux_lemma =>
          have hb7 : (c2 == 7) = true := by rw [h7]; rfl
          have hCu := bw_cut HB.out 0 (by decide)
          go_wp2_with fail
          refine hCu.mono ?_; rintro e v5 ⟨rfl, n5⟩
          have bx5 := Both.first OL.bw OL.dw (x := b) HD.out HJ.out n5
          have HK5 : Hid (Kp W v5) := bx5.below HK.out (fun x hx => (Both.new OL.bw OL.dw ⟨T', R', rfl, HB.out, HD.out, HJ.out⟩) x hx)
          obtain ⟨T4, ⟨P4, R4, rfl, oP4, oR4, dj4⟩, _, _⟩ := bx5
          have hCd := dw_cut oR4 0 (by decide)
          have HoP4 := hid oP4
          have HoR4 := hid oR4
          have Hdj4 := hid dj4
          clear hCu oP4 oR4 dj4 n5 HB HD HJ HK
          go_wp2_with fail
          refine hCd.mono ?_; rintro e v6 ⟨rfl, n6⟩
          have bx6 := Both.second OL.bw OL.dw (y := y) HoP4.out Hdj4.out n6
          have HK6 : Hid (Kp W v6) := bx6.below HK5.out (fun x hx => (Both.new OL.bw OL.dw ⟨P4, R4, rfl, HoP4.out, HoR4.out, Hdj4.out⟩) x hx)
          obtain ⟨T6, ⟨P6, R6, rfl, oP6, oR6, dj6⟩, _, _⟩ := bx6
          have HoP6 := hid oP6
          have HoR6 := hid oR6
          have Hdj6 := hid dj6
          clear hCd oP6 oR6 dj6 n6
          go_wp2_with fail
          go_meet
          exact ⟨by rw [h7], rfl, _, P6, R6, HoP6, HoR6, Hdj6, HK6⟩
        · have hb7 : (c2 == 7) = false := beq_eq_false_iff_ne.2 h7
          go_wp2_with fail
          go_meet
          exact ⟨rfl, rfl, B, T', R', HB, HD, HJ, HK⟩
      case rest =>
      obtain ⟨rfl, rfl, B1, T1, R1, HB1, HD1, HJ1, HK1⟩ := hcut
      clear HB HD HJ HBf HK g0 g1 g2
      have hNew := rp_new HB1.out HD1.out HJ1.out HK1.out
      go_wp2_with fail
      refine hNew.mono ?_; rintro e v7 ⟨r, f, g, F, rfl, hp, k7⟩
      have hx7 : Sx W r b f g y 0 B1 [] [] [] F v7 := ⟨hp, HK1.out.trans k7, (fun _ h => by cases h), (fun _ h => by cases h), (fun _ h => by cases h)⟩
      obtain ⟨g0, g1, g2⟩ := HWho.out v7 hx7.k
      have q7a := mask7 a2
      have q7b := mask7 b2
      obtain ⟨a7, ea7⟩ : ∃ x, x = a2 % 8 := ⟨_, rfl⟩
      obtain ⟨b7, eb7⟩ : ∃ x, x = b2 % 8 := ⟨_, rfl⟩
      rw [← ea7] at q7a
      rw [← eb7] at q7b
      have hx8 := hx7.new4 (.int .i64 a2) (.int .i64 b2) (.int .i64 a7) (.int .i64 b7) 54
      obtain ⟨V8, hV8⟩ : ∃ V, V = v7.alloc (.cells #[.int .i64 a2, .int .i64 b2, .int .i64 a7, .int .i64 b7] 54) := ⟨_, rfl⟩
      obtain ⟨Z, hZ⟩ : ∃ Z, Z = v7.heap.size := ⟨_, rfl⟩
      rw [← hV8, ← hZ] at hx8
      have HX8 := hid hx8
      have HVZ : Hid (V8 = v7.alloc (.cells #[.int .i64 a2, .int .i64 b2, .int .i64 a7, .int .i64 b7] 54) ∧ Z = v7.heap.size) := ⟨hV8, hZ⟩
      clear hNew k7 hp hx7 hx8 HB1 HD1 HJ1 HK1 ea7 eb7 hV8 hZ
      go_wp2_with fail
      rw [← HVZ.out.1, ← HVZ.out.2]
      clear HVZ g0 g1 g2
      go_loopw [142] (fun i wr => ∃ (j : Nat) (F' : List Nat), j ≤ 2 ∧ i = .int .i64 j ∧ Hid (Sx W r b f g y (2 * j) B1 [] [] [(Z, 0, .int .i64 a2), (Z, 1, .int .i64 b2), (Z, 2, .int .i64 a7), (Z, 3, .int .i64 b7)] F' wr)) (fun i _ => 2 - (intOf i).toNat)
      case atStart => exact ⟨0, F, by omega, by go_num, HX8⟩
      case round =>
        obtain ⟨j, F', hj, rfl, HX⟩ := hrel
        clear HX8
        by_cases hj2 : j < 2
        · as_aux_lemma =>
          obtain ⟨t, c, zt, zc⟩ : ∃ t c : Int, wr.cell? ⟨Z, j * 2, none⟩ = some (.int .i64 t) ∧ wr.cell? ⟨Z, j * 2 + 1, none⟩ = some (.int .i64 c) := by
            have hcs : j = 0 ∨ j = 1 := by omega
            rcases hcs with rfl | rfl
            · exact ⟨a2, b2, HX.out.at (by simp), HX.out.at (by simp)⟩
            · exact ⟨a7, b7, HX.out.at (by simp), HX.out.at (by simp)⟩
          obtain ⟨E, hE⟩ : ∃ E, E = ldE B1 L t := ⟨_, rfl⟩
          obtain ⟨Tt, hTt⟩ : ∃ E, E = ldT B1 L t := ⟨_, rfl⟩
          obtain ⟨Kd, hKd⟩ : ∃ E, E = ldK B1 L t := ⟨_, rfl⟩
          obtain ⟨oT, hoT⟩ : ∃ E, E = onT B1 L t c := ⟨_, rfl⟩
          obtain ⟨oE, hoE⟩ : ∃ E, E = onE B1 L t c := ⟨_, rfl⟩
          obtain ⟨kT, hkT⟩ : ∃ E, E = coT B1 L t c := ⟨_, rfl⟩
          obtain ⟨kE, hkE⟩ : ∃ E, E = coE B1 L t c := ⟨_, rfl⟩
          obtain ⟨lE, hlE⟩ : ∃ E, E = lsE L t := ⟨_, rfl⟩
          obtain ⟨wB, hwB⟩ : ∃ E, E = wlB B1 L t := ⟨_, rfl⟩
          have HEt : Hid (E = 0 → Tt = t) := fun h => by rw [hTt]; exact (ld_yes (by rw [← hE]; exact h)).2.2.2.1
          obtain ⟨eLn, eLs, eLe⟩ := HLe.out
          have cLd := fun n lS lI lC F V (h : Sx W r b f g y n B1 lS lI lC F V) hn => sx_load h HTW.out hn NW.out t
          have cLr := fun n lS lI lC F V (h : Sx W r b f g y n B1 lS lI lC F V) => sd_load h NX.out t
          have cOn := fun n lS lI lC F V (h : Sx W r b f g y n B1 lS lI lC F V) hn => sx_one h HTW.out hn NW.out t c
          have cOr := fun n lS lI lC F V (h : Sx W r b f g y n B1 lS lI lC F V) => sd_one h NX.out t c
          have cGo := fun n lS lI lC F V (h : Sx W r b f g y n B1 lS lI lC F V) => sx_gone h HTW.out NW.out t
          have cGr := fun n lS lI lC F V (h : Sx W r b f g y n B1 lS lI lC F V) => sd_gone h NX.out t
          have cCo := fun n lS lI lC F V (h : Sx W r b f g y n B1 lS lI lC F V) => sx_col h HTW.out NW.out t c
          have cCr := fun n lS lI lC F V (h : Sx W r b f g y n B1 lS lI lC F V) => sd_col h NX.out t c
          have cWh := fun n lS lI lC V (h : Sy W r b f g y n B1 lS lI lC V) => sy_whole h HTW.out NW.out t
          have cWr := fun n lS lI lC V (h : Sy W r b f g y n B1 lS lI lC V) => sdy_whole h NX.out t
          rw [← hE, ← hTt, ← hKd] at cLd
          rw [← hE, ← hKd] at cLr
          rw [← hoT, ← hoE] at cOn cOr
          rw [← hlE] at cGo cGr
          rw [← hkT, ← hkE] at cCo cCr
          rw [← hwB] at cWh cWr
          rw [eLn, eLs, eLe] at cLd cLr cOn cOr cGo cGr cCo cCr cWh cWr
          unfold lV at cLd cLr cOn cOr cGo cGr cCo cCr cWh cWr
          have HcLd := hid cLd
          have HcLr := hid cLr
          have HcOn := hid cOn
          have HcOr := hid cOr
          have HcGo := hid cGo
          have HcGr := hid cGr
          have HcCo := hid cCo
          have HcCr := hid cCr
          have HcWh := hid cWh
          have HcWr := hid cWr
          obtain ⟨CC, hCC⟩ : ∃ E, E = ldC B1 L t := ⟨_, rfl⟩
          obtain ⟨GG, hGG⟩ : ∃ E, E = ldL B1 L t := ⟨_, rfl⟩
          obtain ⟨gG, hgG⟩ : ∃ E, E = ldG B1 L t := ⟨_, rfl⟩
          rw [← hCC, ← hGG] at HcLd HcLr
          rw [← hgG] at HcGo HcGr
          have hx1 := HX.out.new2 (.int .i64 t) (.int .i64 c) 54
          obtain ⟨Hz, hHz⟩ : ∃ x, x = wr.heap.size := ⟨_, rfl⟩
          obtain ⟨V1, hV1⟩ : ∃ V, V = wr.alloc (.cells #[.int .i64 t, .int .i64 c] 54) := ⟨_, rfl⟩
          rw [← hV1, ← hHz] at hx1
          have HE1 : Hid (V1 = wr.alloc (.cells #[.int .i64 t, .int .i64 c] 54) ∧ Hz = wr.heap.size) := ⟨hV1, hHz⟩
          have HX1 := hid hx1
          have z0 := hx1.at (c := Hz) (o := 0) (v := .int .i64 t) (by simp)
          obtain ⟨q0, q1, q2, q3, q4⟩ := LcW.out.kept hx1.k
          clear cLd cLr cOn cOr cGo cGr cCo cCr cWh cWr hE hTt hKd hoT hoE hkT hkE hlE hwB hCC hGG hgG eLn eLs eLe hx1 hHz hV1 HX
          go_upto_region 23 with fail
          rw [← HE1.out.1, ← HE1.out.2]
          clear HE1 zt zc
          go_wp2_with fail
          refine (HcLd.out _ _ _ _ _ _ HX1.out (by omega)).mono ?_; rintro e x1 ⟨cv, gv, F1, rfl, h1⟩
          obtain ⟨ca, ck, cm, hcv⟩ : ∃ a k m, cv = .slice a m k := by obtain ⟨a, k, e, _⟩ := (h1.s _ List.mem_cons_self).1.slice; exact ⟨a, k, _, e⟩
          obtain ⟨ga, gk, gm, hgv⟩ : ∃ a k m, gv = .slice a m k := by obtain ⟨a, _, _, k, e, _⟩ := ints_parts (h1.i _ List.mem_cons_self).1; exact ⟨a, k, _, e⟩
          subst hcv hgv
          have h2 := h1.new4 (.int .i64 Tt) (.slice ca cm ck) (.slice ga gm gk) (.int .i64 Kd) 70
          obtain ⟨Pb, hPb⟩ : ∃ x, x = x1.heap.size := ⟨_, rfl⟩
          obtain ⟨V2, hV2⟩ : ∃ V, V = x1.alloc (.cells #[.int .i64 Tt, .slice ca cm ck, .slice ga gm gk, .int .i64 Kd] 70) := ⟨_, rfl⟩
          rw [← hV2, ← hPb] at h2
          have HE2 : Hid (V2 = x1.alloc (.cells #[.int .i64 Tt, .slice ca cm ck, .slice ga gm gk, .int .i64 Kd] 70) ∧ Pb = x1.heap.size) := ⟨hV2, hPb⟩
          have HX2 := hid h2
          clear q0 q1 q2 q3 q4 z0
          have z0 := h2.at (c := Hz) (o := 0) (v := .int .i64 t) (by simp)
          obtain ⟨q0, q1, q2, q3, q4⟩ := LdW.out.kept h2.k
          clear h1 h2 hPb hV2 HX1 HcLd
          go_upto_region 24 with fail
          rw [← HE2.out.1, ← HE2.out.2]
          clear HE2
          go_wp2_with fail
          refine (HcLr.out _ _ _ _ _ _ HX2.out).mono ?_; rintro e x2 ⟨dv, hv, F2, rfl, h3⟩
          have HX3 := hid h3
          clear q0 q1 q2 q3 q4 z0
          have z0 := h3.at (c := Hz) (o := 0) (v := .int .i64 t) (by simp)
          have z1 := h3.at (c := Hz) (o := 1) (v := .int .i64 c) (by simp)
          obtain ⟨q0, q1, q2, q3, q4⟩ := LcW.out.kept h3.k
          clear h3 HX2 HcLr
          go_wp2_with fail
          refine (HcOn.out _ _ _ _ _ _ HX3.out (by omega)).mono ?_; rintro e x3 ⟨F3, rfl, h3⟩
          have HX4 := hid h3
          clear q0 q1 q2 q3 q4 z0 z1
          have z0 := h3.at (c := Hz) (o := 0) (v := .int .i64 t) (by simp)
          have z1 := h3.at (c := Hz) (o := 1) (v := .int .i64 c) (by simp)
          obtain ⟨q0, q1, q2, q3, q4⟩ := LdW.out.kept h3.k
          clear h3 HX3 HcOn
          go_wp2_with fail
          refine (HcOr.out _ _ _ _ _ _ HX4.out).mono ?_; rintro e x4 ⟨F4, rfl, h3⟩
          have HX5 := hid h3
          clear q0 q1 q2 q3 q4 z0 z1
          have z0 := h3.at (c := Hz) (o := 0) (v := .int .i64 t) (by simp)
          obtain ⟨q0, q1, q2, q3, q4⟩ := LcW.out.kept h3.k
          clear h3 HX4 HcOr
          go_wp2_with fail
          refine (HcGo.out _ _ _ _ _ _ HX5.out).mono ?_; rintro e x5 ⟨lv, F5, rfl, h3⟩
          have HX6 := hid h3
          clear q0 q1 q2 q3 q4 z0
          have z0 := h3.at (c := Hz) (o := 0) (v := .int .i64 t) (by simp)
          obtain ⟨q0, q1, q2, q3, q4⟩ := LdW.out.kept h3.k
          clear h3 HX5 HcGo
          go_wp2_with fail
          refine (HcGr.out _ _ _ _ _ _ HX6.out).mono ?_; rintro e x6 ⟨lw, rfl, i6, h3⟩
          have hAl := sx_alike h3 List.mem_cons_self i6
          clear q0 q1 q2 q3 q4 z0 HX6 HcGr h3 i6
          go_wp2_with fail
          refine hAl.mono ?_; rintro e x7 ⟨rfl, h3⟩
          have HX7 := hid h3
          have z0 := h3.at (c := Hz) (o := 0) (v := .int .i64 t) (by simp)
          have z1 := h3.at (c := Hz) (o := 1) (v := .int .i64 c) (by simp)
          obtain ⟨q0, q1, q2, q3, q4⟩ := LcW.out.kept h3.k
          clear h3 hAl
          go_wp2_with fail
          refine (HcCo.out _ _ _ _ _ _ HX7.out).mono ?_; rintro e x8 ⟨F8, rfl, h3⟩
          have HX8 := hid h3
          clear q0 q1 q2 q3 q4 z0 z1
          have z0 := h3.at (c := Hz) (o := 0) (v := .int .i64 t) (by simp)
          have z1 := h3.at (c := Hz) (o := 1) (v := .int .i64 c) (by simp)
          obtain ⟨q0, q1, q2, q3, q4⟩ := LdW.out.kept h3.k
          clear h3 HX7 HcCo
          go_wp2_with fail
          refine (HcCr.out _ _ _ _ _ _ HX8.out).mono ?_; rintro e x9 ⟨F9, rfl, h3⟩
          have HX9 := hid h3
          clear q0 q1 q2 q3 q4 z0 z1 h3 HX8 HcCr
          obtain ⟨R, hR⟩ : ∃ R : World → Prop, R = Sy W r b f g y (2 * j + 1 + 1) B1 [(dv, CC), (.slice ca cm ck, CC)] [(lv, gG), (hv, GG), (.slice ga gm gk, GG)] [(Pb, 0, .int .i64 Tt), (Pb, 1, .slice ca cm ck), (Pb, 2, .slice ga gm gk), (Pb, 3, .int .i64 Kd), (Hz, 0, .int .i64 t), (Hz, 1, .int .i64 c), (Z, 0, .int .i64 a2), (Z, 1, .int .i64 b2), (Z, 2, .int .i64 a7), (Z, 3, .int .i64 b7)] := ⟨_, rfl⟩
          have hr0 : R x9.drew := by rw [hR]; exact ⟨F9, HX9.out.kp (Kp.refl _).drew⟩
          have cEq : ∀ V, R V → Calls Tryz.prog 32 #[.slice ca cm ck, dv] V fun e V' => e = .returned (.bool true) ∧ R V' := by rw [hR]; exact fun V h => sy_equal h (A := CC) (by simp) (by simp)
          have cAl : ∀ V, R V → Calls Tryz.prog 11 #[.slice ga gm gk, hv] V fun e V' => e = .returned (.bool true) ∧ R V' := by rw [hR]; exact fun V h => sy_alike h (A := GG) (by simp) (by simp)
          have cWh : ∀ V, R V → Calls Tryz.prog 33 #[.pointer (some ⟨r, 0, none⟩), .agg #[.int .i64 (N : Int), .int .i64 (S : Int), .int .i64 1, .slice a1_ m1_ c1_, .slice a2_ m2_ c2_], .int .i64 t] V fun e V' => e = .returned (.bool wB) ∧ R V' := by rw [hR]; exact fun V h => HcWh.out _ _ _ _ V h
          have cWr : ∀ V, R V → Calls Tryz.prog 34 #[.pointer (some ⟨y, 0, none⟩), .agg #[.int .i64 (N : Int), .int .i64 (S : Int), .int .i64 1, .slice a3_ m3_ c3_, .slice a4_ m4_ c4_], .int .i64 t] V fun e V' => e = .returned (.bool wB) ∧ R V' := by rw [hR]; exact fun V h => HcWr.out _ _ _ _ V h
          have cC : ∀ V, R V → (V.cell? ⟨Pb, 0, none⟩ = some (.int .i64 Tt) ∧ V.cell? ⟨Pb, 1, none⟩ = some (.slice ca cm ck) ∧ V.cell? ⟨Pb, 2, none⟩ = some (.slice ga gm gk) ∧ V.cell? ⟨Pb, 3, none⟩ = some (.int .i64 Kd) ∧ V.cell? ⟨Hz, 0, none⟩ = some (.int .i64 t)) ∧ Kp W V := by
            rw [hR]
            rintro V ⟨F, h⟩
            exact ⟨⟨h.at (by simp), h.at (by simp), h.at (by simp), h.at (by simp), h.at (by simp)⟩, h.k⟩
          have HcEq := hid cEq
          have HcAl := hid cAl
          have HcWh2 := hid cWh
          have HcWr2 := hid cWr
          have y0 := fun p => (cC _ (prw_ok hr0 p)).1.1
          have y1 := fun p => (cC _ (prw_ok hr0 p)).1.2.1
          have y2 := fun p => (cC _ (prw_ok hr0 p)).1.2.2.1
          have y3 := fun p => (cC _ (prw_ok hr0 p)).1.2.2.2.1
          have y4 := fun p => (cC _ (prw_ok hr0 p)).1.2.2.2.2
          have lc := fun p => LcW.out.kept (cC _ (prw_ok hr0 p)).2
          have ld := fun p => LdW.out.kept (cC _ (prw_ok hr0 p)).2
          have l0 := fun p => (lc p).c0
          have l1_ := fun p => (lc p).c1
          have l2_ := fun p => (lc p).c2
          have l3_ := fun p => (lc p).c3
          have l4_ := fun p => (lc p).c4
          have k0 := fun p => (ld p).c0
          have k1_ := fun p => (ld p).c1
          have k2_ := fun p => (ld p).c2
          have k3_ := fun p => (ld p).c3
          have k4_ := fun p => (ld p).c4
          have HR := hid hR
          clear cEq cAl cWh cWr cC lc ld hR HcWh HcWr HX9
          go_upto_region 35 with fail
          by_cases hE0 : E = 0
          · have hTt := HEt.out hE0
            subst hE0
            subst hTt
            refine wp_region_pr R hr0 (by kernel_rfl) (by kernel_rfl) ?_
            repeat (first
              | go_big_quiet_skip
              | (go_big_quiet_want; go_big_quiet_op; go_big_quiet_on)
              | (go_big_quiet_want; go_big_quiet_op; apply Exists.intro; refine ⟨fun p => ?_, ?_⟩; (focus
                  first
                  | (go_at_call 32; exact pr_call (HcEq.out _ (prw_ok hr0 p)))
                  | (go_at_call 11; exact pr_call (HcAl.out _ (prw_ok hr0 p)))
                  | (go_at_call 33; exact pr_call (HcWh2.out _ (prw_ok hr0 p)))
                  | (go_at_call 34; exact pr_call (HcWr2.out _ (prw_ok hr0 p)))); go_big_quiet_on))
            refine wpQuiet_nil ?_
            rintro wz ⟨p, hp⟩
            have hz : R wz := by rw [hp]; exact prw_ok hr0 p
            have hz2 := hz
            rw [HR.out] at hz2
            obtain ⟨F10, h10⟩ := hz2
            have HX10 : Hid (Sx W r b f g y (2 * (j + 1)) B1 [] [] [(Z, 0, .int .i64 a2), (Z, 1, .int .i64 b2), (Z, 2, .int .i64 a7), (Z, 3, .int .i64 b7)] F10 wz) := by
              show Sx _ _ _ _ _ _ _ _ _ _ _ _ _
              rw [show 2 * (j + 1) = 2 * j + 1 + 1 by omega]
              exact h10.less (fun x h => by cases h) (fun x h => by cases h) (fun x h => by
                simp only [List.mem_cons, List.not_mem_nil, or_false] at h ⊢
                rcases h with h | h | h | h <;> simp [h])
            clear hp hz h10 y0 y1 y2 y3 y4 l0 l1_ l2_ l3_ l4_ k0 k1_ k2_ k3_ k4_ hr0
            go_wp2
            go_roundw
            case rel => exact ⟨j + 1, F10, by omega, by go_num, HX10⟩
            case measure => simp [intOf]; omega
          · have hEb : (E == 0) = false := beq_eq_false_iff_ne.2 hE0
            refine wp_region_pr R hr0 (by kernel_rfl) (by kernel_rfl) ?_
            repeat (first
              | go_big_quiet_skip
              | (go_big_quiet_want; go_big_quiet_op; go_big_quiet_on)
              | (go_big_quiet_want; go_big_quiet_op; apply Exists.intro; refine ⟨fun p => ?_, ?_⟩; (focus
                  first
                  | (go_at_call 32; exact pr_call (HcEq.out _ (prw_ok hr0 p)))
                  | (go_at_call 11; exact pr_call (HcAl.out _ (prw_ok hr0 p)))
                  | (go_at_call 33; exact pr_call (HcWh2.out _ (prw_ok hr0 p)))
                  | (go_at_call 34; exact pr_call (HcWr2.out _ (prw_ok hr0 p)))); go_big_quiet_on))
            refine wpQuiet_nil ?_
            rintro wz ⟨p, hp⟩
            have hz : R wz := by rw [hp]; exact prw_ok hr0 p
            have hz2 := hz
            rw [HR.out] at hz2
            obtain ⟨F10, h10⟩ := hz2
            have HX10 : Hid (Sx W r b f g y (2 * (j + 1)) B1 [] [] [(Z, 0, .int .i64 a2), (Z, 1, .int .i64 b2), (Z, 2, .int .i64 a7), (Z, 3, .int .i64 b7)] F10 wz) := by
              show Sx _ _ _ _ _ _ _ _ _ _ _ _ _
              rw [show 2 * (j + 1) = 2 * j + 1 + 1 by omega]
              exact h10.less (fun x h => by cases h) (fun x h => by cases h) (fun x h => by
                simp only [List.mem_cons, List.not_mem_nil, or_false] at h ⊢
                rcases h with h | h | h | h <;> simp [h])
            clear hp hz h10 y0 y1 y2 y3 y4 l0 l1_ l2_ l3_ l4_ k0 k1_ k2_ k3_ k4_ hr0
            go_wp2
            go_roundw
            case rel => exact ⟨j + 1, F10, by omega, by go_num, HX10⟩
            case measure => simp [intOf]; omega
        · go_wp2
          go_ret
          exact ⟨rfl, KW.out.trans HX.out.k⟩

set_option maxRecDepth 100000 in
theorem lifted (os : Os) (started : os.Started) (H : Type) (enc : TypeId × Value → H) :
    ReturnsInHanded {} Tryz.checked os 4 .any (fun w args => (Rows.rowLoadsSpec.pre enc Tryz.prog Tryz.f4 [] false w args ∧ laidMetH Tryz.prog lz w) ∧ sizedMet enc Tryz.prog Tryz.f4 (OpenSpec.ofChange Rows.rowLoadsSpec) false w args)
      (Rows.rowLoadsSpec.post enc Tryz.prog Tryz.f4 false true false false) := by
  refine returnsInHanded_of_change_and (C := Tryz.checked) (X := fun w _ => laidMetH Tryz.prog lz w) (fun _ _ _ hh h => h.of_heap hh) own started (by kernel_rfl) Tryz.func4
    (ChangeSpec.witness_shaped (enc := enc) (C := Tryz.checked) (os := os) (X := fun w _ => laidMetH Tryz.prog lz w) false (World.doorLaid Tryz.prog 400 os) #[.agg #[.int .i64 0, .int .i64 0, .slice none 0 0, .slice none 0 0, .slice none 0 0], .slice none 0 0, .agg #[.int .i64 0, .int .i64 0, .int .i64 0]] 8 rfl (World.shaped_of_RefB (by kernel_rfl) (by kernel_rfl)) (by kernel_rfl) (by kernel_rfl) (by kernel_rfl) (door_met os _)) ?_
  intro W base args ds gs before hval0 hW hcnd _ hL _
  have hval : ∀ (j : Nat) t v, Tryz.f4.params[j]? = some t → args[j]? = some v → Value.okWide Tryz.prog W .any base t v := hval0
  have hW' := hW
  have hlt := hW.lt
  obtain ⟨p, q, hA0, hV, rfl, hfz, hnd⟩ := hW
  have hA : DataW.TrodAll enc Tryz.prog W 0 (fun _ => true) true Tryz.f4.params.toList args.toList ds p := hA0
  have hAk := hA
  rw [Tryz.params4] at hA hval
  obtain ⟨v0, vs0, d0, ds0, p0, q0, hargs, rfl, rfl, h0, r0⟩ := trodAll_cons hA
  obtain ⟨v1, vs1, d1, ds1, p1, q1, rfl, rfl, rfl, h1, r1⟩ := trodAll_cons r0
  obtain ⟨v2, vs2, d2, ds2, p2, q2, rfl, rfl, rfl, h2, r2⟩ := trodAll_cons r1
  obtain ⟨rfl, rfl, rfl⟩ := trodAll_nil r2
  obtain rfl : args = #[v0, v1, v2] := by cases args; simp_all
  obtain ⟨rfl, rfl⟩ := trodVars_none hV
  obtain ⟨m0, s0, sv0, mv0, dv0, st0, mk0, nd0, D0, rfl, w0, x0, y0⟩ := open_setup (hval 0 25 v0 rfl rfl) h0
  obtain ⟨l1, w1⟩ := open_prs Tryz.underlying44 Tryz.underlying54 Tryz.underlying3 cellsI cellsJ (hval 1 44 v1 rfl rfl) h1
  obtain ⟨a2, b2, c2, rfl, w2, x2, y2⟩ := open_ints3 Tryz.underlying45 Tryz.underlying3 cellsI cellsK (hval 2 45 v2 rfl rfl) h2
  clear hA0 hval0
  simp only [List.append_nil] at hW' hAk hlt
  have hwk := walk W (of_laid hL) m0 s0 sv0 mv0 dv0 st0 mk0 nd0 D0 v1 l1 a2 b2 c2 w0 x0 y0 w1 w2 x2 y2
  refine hwk.mono fun e W' ⟨he, hg⟩ => ?_
  subst he
  exact ⟨_, rfl, post_kp (pv := []) hW' (fun _ _ _ => (trodAll_cons_mk (shut_bool Tryz.underlying4 _) trodAll_mk0)) (fun sp hsp => trodAll_stays laidOut (by rw [Tryz.params4]; exact of_decide_eq_true (by kernel_rfl)) hAk (fun x hx => Below.same hg (hlt x hx)) hsp) (fun _ _ => rfl) (by simp) hg⟩

theorem over : Rows.rowLoadsRow.holds Tryz.pinned (OpenSpec.ofChange Rows.rowLoadsSpec) :=
  OpenClaim.holds_of_wide 4 Tryz.f4 rfl rfl rfl rfl rfl rfl rfl ⟨rfl, rfl, rfl, rfl, rfl⟩ rfl rfl rfl rfl rfl (by kernel_rfl) Tryz.func4 (by kernel_rfl)
    (of_decide_eq_true (by kernel_rfl)) (by unfold Func.isWrapper; first | (rw [if_pos (by decide +kernel)]; kernel_rfl) | (rw [if_neg (by decide +kernel)]; exact ⟨rfl, rfl⟩))
    (fun os started H enc _ => lifted os started H enc)

theorem card : Claim7.holds Tryz.pinned (.plain (OpenSpec.ofChange Rows.rowLoadsSpec)) Rows.rowLoadsCard :=
  Claim7.holds_tied_plain_at .later [] [.data] true Rows.rowLoadsCard.stood.harness false
    over (fun _ h => by cases h) (by kernel_rfl) (fun _ h => by cases h) rowLoads_row_tie rfl ⟨rfl, rfl⟩ (by kernel_rfl) rfl
    (fun f fn hf hfn => by
      have e : some f = some 4 := hf.symm.trans (by kernel_rfl)
      obtain rfl := Option.some.inj e
      obtain rfl : fn = Tryz.f4 := (Option.some.inj (Tryz.func4.symm.trans hfn)).symm
      exact ⟨by kernel_rfl, fun j t ht => by
        rw [Tryz.params4] at ht
        have hm : t ∈ [25, 44, 45] := by simpa using Array.mem_of_getElem? ht
        have hall : ([25, 44, 45].all fun u => !Tryz.prog.wantsStandIn u) = true := by kernel_rfl
        exact (show Tryz.prog.wantsStandIn t = false by simpa using List.all_eq_true.1 hall t hm)⟩)
    (by kernel_rfl)

end Go.Proofs.YtonooelffokfkaaGreatDoor.rowLoads
namespace Go.Proofs.YtonooelffokfkaaGreatDoor
theorem rowLoads_holds : Rows.RowLoadsCardSaid := rowLoads.card
end Go.Proofs.YtonooelffokfkaaGreatDoor
