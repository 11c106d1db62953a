/-
  QueueFull: for every input the law answers true, and its arguments read as before. No condition.
-/
import Derived.Test.YtdfdoinhkjoalaaRows
import Derived.Test.YtdfdoinhkjoalaaBufArgs
import Derived.Test.YtdfdoinhkjoalaaQuLaw
import Derived.WalkKit
import Derived.ProofKit
import Derived.OpenShut
import Derived.ShutString
import Derived.Deep.QuietTactic
import Derived.BigQuiet
import Derived.Deep.RegionWith
import Derived.Deep.RegionHeld3
import Derived.Deep.DeepCutAuto
import Derived.Deep.CutBlock
namespace Go.Proofs.Ytdfdoinhkjoalaa.queueFull
open Go.ChangeShapes Go.WideShapes Go.ChangeAt Go.RowKit
open Go.ChangeMaps (open_string shut_string)
open Go.Proofs.Ytdfdoinhkjoalaa Plain
set_option linter.unusedVariables false

theorem own : ownKnob Try.prog.godebug = none := by kernel_rfl
theorem laidOut : laidOutB Try.prog = true := by kernel_rfl
theorem full_facts (ds d2 : ByteArray) (n kk : Nat) (h1 : ds.size = 64) (h2 : d2.size = 64) (hn : 1 ≤ n) (hm : n ≤ 256) (hk : kk < n) : ∃ S1 S2 S3 : QS,
    qful ⟨fuL ds n, n, n⟩ = true ∧ ptE ⟨fuL ds n, n, n⟩ 1 ds = 10 ∧ ptS ⟨fuL ds n, n, n⟩ 1 ds = ⟨fuL ds n, n, n⟩ ∧ ptE ⟨fuL ds n, n, n⟩ (2 * (kk : Int)) d2 = 0 ∧ ptS ⟨fuL ds n, n, n⟩ (2 * (kk : Int)) d2 = S1 ∧ Qg S1 ∧ hsI S1.L (2 * (kk : Int)) = true ∧ (gtI S1.L (2 * (kk : Int))).d = d2 ∧ (⟨delL S1.L (2 * (kk : Int)), S1.m, S1.c⟩ : QS) = S2 ∧ Qg S2 ∧ qful S2 = false ∧ ptE S2 1 ds = 0 ∧ ptS S2 1 ds = S3 ∧ Qg S3 ∧ qful S3 = true := by
  have g0 := fu_g ds n n hn hm (Nat.le_refl _)
  have l0 := fu_len ds n
  have e1 : hsI (fuL ds n) 1 = false := fu_no ds n 1 (fun k hk => by omega)
  have e2 := fu_has ds n kk hk
  have p1 : ptE ⟨fuL ds n, n, n⟩ 1 ds = 10 := by unfold ptE; rw [if_neg (by omega), if_neg (by simp [h1]), if_neg (by rw [e1]; decide), if_pos (by show n ≤ (fuL ds n).length; omega)]
  have p2 : ptE ⟨fuL ds n, n, n⟩ (2 * (kk : Int)) d2 = 0 := by unfold ptE; rw [if_neg (by omega), if_neg (by simp [h2]), if_pos e2]
  have q2 := pt_ok p2
  have g1 := g0.put p2 (by show (n : Int) + 1 ≤ _; omega)
  obtain ⟨s1, s2, s3⟩ := put_all (fu_sr ds n) (2 * (kk : Int)) d2 (n : Int)
  rw [if_pos e2, l0] at s2
  have t1 : getL (putL (2 * (kk : Int)) d2 (n : Int) (fuL ds n)) (2 * (kk : Int)) = some ⟨2 * (kk : Int), d2, agI (fuL ds n) (2 * (kk : Int)) (n : Int)⟩ := by rw [s3, if_pos rfl]
  have hh1 : hsI (putL (2 * (kk : Int)) d2 (n : Int) (fuL ds n)) (2 * (kk : Int)) = true := by rw [hs_get, t1]; rfl
  obtain ⟨r1, r2, r3⟩ := del_all s1 (2 * (kk : Int))
  rw [if_pos hh1, s2] at r2
  have e4 : hsI (delL (putL (2 * (kk : Int)) d2 (n : Int) (fuL ds n)) (2 * (kk : Int))) 1 = false := by
    rw [hs_get, r3, if_neg (by omega), s3, if_neg (by omega), ← hs_get, e1]
  have p4 : ptE ⟨delL (putL (2 * (kk : Int)) d2 (n : Int) (fuL ds n)) (2 * (kk : Int)), n, (n : Int) + 1⟩ 1 ds = 0 := by
    unfold ptE
    rw [if_neg (by omega), if_neg (by simp [h1]), if_neg (by rw [e4]; decide), if_neg (by show ¬ n ≤ (delL _ _).length; rw [r2]; omega)]
  rw [q2] at g1
  have g2 := g1.take (2 * (kk : Int))
  have g3 := g2.put p4 (by show (n : Int) + 1 + 1 ≤ _; omega)
  obtain ⟨u1, u2, u3⟩ := put_all r1 1 ds ((n : Int) + 1)
  rw [e4, if_neg (by decide), r2] at u2
  refine ⟨_, _, _, ?_, p1, pt_no (by rw [p1]; decide), p2, q2, g1, hh1, ?_, rfl, g2, ?_, p4, rfl, g3, ?_⟩
  · unfold qful; exact decide_eq_true (by show n ≤ (fuL ds n).length; omega)
  · show (gtI (putL (2 * (kk : Int)) d2 (n : Int) (fuL ds n)) (2 * (kk : Int))).d = d2
    unfold gtI; rw [t1]; rfl
  · unfold qful; exact decide_eq_false (by show ¬ n ≤ (delL (putL (2 * (kk : Int)) d2 (n : Int) (fuL ds n)) (2 * (kk : Int))).length; rw [r2]; omega)
  · rw [pt_ok p4]
    unfold qful; exact decide_eq_true (by show n ≤ (putL 1 ds ((n : Int) + 1) (delL (putL (2 * (kk : Int)) d2 (n : Int) (fuL ds n)) (2 * (kk : Int)))).length; rw [u2]; omega)
set_option maxRecDepth 100000 in
set_option maxHeartbeats 4000000 in
theorem walk (w : World) (a0 : Int) (a1 : QA) (w0 : (Lit.int .i64 a0).wf = true) (w1 : AOk a1) :
    Calls Try.prog 6 #[.int .i64 a0, aV a1] w fun e w' => e = .returned (.bool true) ∧ Kp w w' := by
  obtain ⟨b, d, odd, out⟩ := a1
  have hd : d < 256 := w1.d
  clear w1 w0
  unfold aV acs
  simp only
  obtain ⟨W0, hW0⟩ : ∃ W0, W0 = w.alloc (.cells #[.int .i64 b, .int .u8 (d : Int), .bool odd, .bool out] 29) := ⟨_, rfl⟩
  have k0 : Kp w W0 := by rw [hW0]; exact (Kp.refl w).alloc _
  have c0 : W0.cell? ⟨w.heap.size, 0, none⟩ = some (.int .i64 b) := by rw [hW0, World.cell?_alloc_at _ _ _ _ rfl]; rfl
  have c1 : W0.cell? ⟨w.heap.size, 1, none⟩ = some (.int .u8 (d : Int)) := by rw [hW0, World.cell?_alloc_at _ _ _ _ rfl]; rfl
  have HW := hid hW0
  have HK0 := hid k0
  clear hW0 k0
  obtain ⟨n, hn⟩ : ∃ n, n = qm a0 := ⟨_, rfl⟩
  have hn1 : 1 ≤ n := by rw [hn]; exact (qm_pos a0).1
  have hn2 : n ≤ 256 := by rw [hn]; exact (qm_pos a0).2
  obtain ⟨m1, hm1⟩ : ∃ m1, m1 = min a0 256 := ⟨_, rfl⟩
  have hmin : ∀ ts t W, (Builtin.min_ ts t #[.int .i64 a0, .int .i64 256]).run Try.prog W = .ok (.int .i64 m1) W := fun ts t W => by rw [hm1]; exact imin ts t a0 256 W
  have hmax : ∀ ts t W, (Builtin.max_ ts t #[.int .i64 1, .int .i64 m1]).run Try.prog W = .ok (.int .i64 (n : Int)) W := fun ts t W => by
    rw [imax ts t 1 m1 W, hn, qm_is, hm1]
    congr 2
    omega
  obtain ⟨mb, hmb⟩ : ∃ mb, mb = max 0 b := ⟨_, rfl⟩
  have hmaxb : ∀ ts t W, (Builtin.max_ ts t #[.int .i64 0, .int .i64 b]).run Try.prog W = .ok (.int .i64 mb) W := fun ts t W => by rw [hmb]; exact imax ts t 0 b W
  have hmb0 : 0 ≤ mb := by omega
  obtain ⟨kk, hkk⟩ : ∃ kk : Nat, (kk : Int) = mb % (n : Int) := ⟨(mb % (n : Int)).toNat, Int.toNat_of_nonneg (Int.emod_nonneg _ (by omega))⟩
  have hkn : kk < n := by have := Int.emod_lt_of_pos mb (show (0 : Int) < (n : Int) by omega); omega
  have htm : mb.tmod (n : Int) = (kk : Int) := by rw [Int.tmod_eq_emod_of_nonneg hmb0, hkk]
  obtain ⟨e8, he8⟩ : ∃ e8 : Nat, e8 = (d + 1) % 256 := ⟨_, rfl⟩
  have hw8 : IntKind.u8.wrap ((d : Int) + 1) = (e8 : Int) := by rw [he8, IntKind.wrap_u8]; omega
  have he9 : e8 < 256 := by rw [he8]; omega
  obtain ⟨ds, hds⟩ : ∃ ds, ds = scS d false := ⟨_, rfl⟩
  have hS : ∀ W, Calls Try.prog 14 #[.int .u8 (d : Int), .bool false] W fun e w' => e = .returned (.string ds) ∧ Kp W w' := fun W => by rw [hds]; exact sector_any d hd false W
  obtain ⟨d2, hd2⟩ : ∃ d2, d2 = scS e8 false := ⟨_, rfl⟩
  have hS2 : ∀ W, Calls Try.prog 14 #[.int .u8 (e8 : Int), .bool false] W fun e w' => e = .returned (.string d2) ∧ Kp W w' := fun W => by rw [hd2]; exact sector_any e8 he9 false W
  have z1 : ds.size = 64 := by rw [hds]; exact scS_size _
  have z2 : d2.size = 64 := by rw [hd2]; exact scS_size _
  have HZ : Hid (ds.size = 64 ∧ d2.size = 64) := ⟨z1, z2⟩
  have HF := hid (full_facts ds d2 n kk z1 z2 hn1 hn2 hkn)
  have hN := qnew_any W0 a0 W0 (Nat.le_refl _)
  rw [← hn] at hN
  clear hds hd2 z1 z2 he8 hkk hmb hm1 hn
  go_enter Try.func6, Try.ntmps6
  go_wp2_with fail
  rw [← HW.out]
  clear HW
  refine hN.mono ?_; rintro e w1 ⟨q, T1, rfl, x1, k1, t1⟩
  have HX1 : Hid (∃ T, QX W0 w1 q T ⟨fuL ds 0, n, ((0 : Nat) : Int)⟩ ∧ Kp W0 w1) := ⟨T1, x1, k1⟩
  clear hN x1 k1 t1
  go_wp2
  go_loopw [20] (fun i wr => ∃ k : Nat, i = .int .i64 k ∧ k ≤ n ∧ Hid (∃ T, QX W0 wr q T ⟨fuL ds k, n, (k : Int)⟩ ∧ Kp W0 wr)) (fun i _ => n - (intOf i).toNat)
  case atStart => exact ⟨0, rfl, by omega, HX1⟩
  case round =>
    clear HX1
    obtain ⟨k, rfl, hkn2, HX⟩ := hrel
    obtain ⟨T, x, kx⟩ := HX.out
    have y1 := kx.held c1
    have y0 := kx.held c0
    by_cases hlt : k < n
    · have hlt2 : (k : Int) < (n : Int) := by omega
      have g := fu_g ds n k hn1 hn2 (by omega)
      have hf : qful ⟨fuL ds k, n, (k : Int)⟩ = false := by unfold qful; exact decide_eq_false (by show ¬ n ≤ (fuL ds k).length; rw [fu_len]; omega)
      have hFu := qfull_any x g.l g.m
      rw [hf] at hFu
      have HG := hid (And.intro x (And.intro kx g))
      clear hf x kx g HX
      go_wp2_with fail
      refine hFu.mono ?_; rintro e w2 ⟨rfl, k2⟩
      have y1 := k2.held y1
      clear hFu
      go_wp2_with fail
      refine (hS w2).mono ?_; rintro e w3 ⟨rfl, k3⟩
      obtain ⟨x, kx, g⟩ := HG.out
      obtain ⟨f1, f2⟩ := fu_step ds n k HZ.out.1 hlt hn2
      have hP := qput_any ((x.kept k2).kept k3) g (2 * (k : Int)) ds
      rw [f1, f2] at hP
      have HG3 : Hid (QX W0 w3 q T ⟨fuL ds k, n, (k : Int)⟩ ∧ Kp W0 w3) := ⟨(x.kept k2).kept k3, (kx.trans k2).trans k3⟩
      clear x kx g f1 f2 HG k2 k3 y1 y0
      go_wp2_with fail
      refine hP.mono ?_; rintro e w4 ⟨rfl, z4⟩
      obtain ⟨T4, x4, k4⟩ := nz_step HG3.out.1 HG3.out.2 z4
      have HX4 : Hid (∃ T, QX W0 w4 q T ⟨fuL ds (k + 1), n, ((k + 1 : Nat) : Int)⟩ ∧ Kp W0 w4) := ⟨T4, x4, k4⟩
      clear hP z4 x4 k4 HG3
      go_wp2
      go_roundw
      case rel => exact ⟨k + 1, by go_num, by omega, HX4⟩
      case measure => simp [intOf]; omega
    · obtain rfl : k = n := by omega
      obtain ⟨S1, S2, S3, F1, F2, F3, F4, F5, F6, F7, F8, F9, F10, F11, F12, F13, F14, F15⟩ := HF.out
      have g := fu_g ds k k hn1 hn2 (Nat.le_refl _)
      have hFu := qfull_any x g.l g.m
      rw [F1] at hFu
      have HG := hid (And.intro x (And.intro kx g))
      have H1 : Hid (ptE ⟨fuL ds k, k, k⟩ 1 ds = 10 ∧ ptS ⟨fuL ds k, k, k⟩ 1 ds = ⟨fuL ds k, k, k⟩ ∧ ptE ⟨fuL ds k, k, k⟩ (2 * (kk : Int)) d2 = 0 ∧ ptS ⟨fuL ds k, k, k⟩ (2 * (kk : Int)) d2 = S1 ∧ Qg S1) := ⟨F2, F3, F4, F5, F6⟩
      have H2 : Hid (hsI S1.L (2 * (kk : Int)) = true ∧ (gtI S1.L (2 * (kk : Int))).d = d2 ∧ (⟨delL S1.L (2 * (kk : Int)), S1.m, S1.c⟩ : QS) = S2 ∧ Qg S2 ∧ qful S2 = false ∧ ptE S2 1 ds = 0 ∧ ptS S2 1 ds = S3 ∧ Qg S3 ∧ qful S3 = true) := ⟨F7, F8, F9, F10, F11, F12, F13, F14, F15⟩
      have hkz : ¬ ((k : Int) = 0) := by omega
      clear HF F1 F2 F3 F4 F5 F6 F7 F8 F9 F10 F11 F12 F13 F14 F15 x kx g HX
      go_wp2_with fail
      refine hFu.mono ?_; rintro e w2 ⟨rfl, k2⟩
      have y1 := k2.held y1
      clear hFu y0
      go_wp2_with fail
      refine (hS w2).mono ?_; rintro e w3 ⟨rfl, k3⟩
      obtain ⟨x, kx, g⟩ := HG.out
      have hP := qput_any ((x.kept k2).kept k3) g 1 ds
      rw [H1.out.1, H1.out.2.1] at hP
      have HG3 : Hid (QX W0 w3 q T ⟨fuL ds k, k, (k : Int)⟩ ∧ Kp W0 w3 ∧ Qg ⟨fuL ds k, k, (k : Int)⟩) := ⟨(x.kept k2).kept k3, (kx.trans k2).trans k3, g⟩
      clear x kx g HG k2 k3 y1
      go_wp2_with fail
      refine hP.mono ?_; rintro e w4 ⟨rfl, zz⟩
      obtain ⟨T4, x4, k4⟩ := nz_step HG3.out.1 HG3.out.2.1 zz
      have y1 := k4.held c1
      have HG4 : Hid (QX W0 w4 q T4 ⟨fuL ds k, k, (k : Int)⟩ ∧ Kp W0 w4 ∧ Qg ⟨fuL ds k, k, (k : Int)⟩) := ⟨x4, k4, HG3.out.2.2⟩
      clear hP zz x4 k4 HG3
      go_wp2_with fail
      refine (hS2 w4).mono ?_; rintro e w5 ⟨rfl, k5⟩
      have hP := qput_any (HG4.out.1.kept k5) HG4.out.2.2 (2 * (kk : Int)) d2
      rw [H1.out.2.2.1, H1.out.2.2.2.1] at hP
      have HG5 : Hid (QX W0 w5 q T4 ⟨fuL ds k, k, (k : Int)⟩ ∧ Kp W0 w5) := ⟨HG4.out.1.kept k5, HG4.out.2.1.trans k5⟩
      clear k5 HG4 y1
      go_wp2_with fail
      refine hP.mono ?_; rintro e w6 ⟨rfl, zz⟩
      obtain ⟨T6, x6, k6⟩ := nz_step HG5.out.1 HG5.out.2 zz
      have hGe := qget_any x6 H1.out.2.2.2.2 (2 * (kk : Int))
      rw [H2.out.1, H2.out.2.1] at hGe
      have HG6 : Hid (QX W0 w6 q T6 S1 ∧ Kp W0 w6) := ⟨x6, k6⟩
      clear hP zz x6 k6 HG5
      go_wp2_with fail
      refine hGe.mono ?_; rintro e w7 ⟨rfl, k7⟩
      have hT := qtake_any (HG6.out.1.kept k7) H1.out.2.2.2.2 (2 * (kk : Int))
      rw [H2.out.1, H2.out.2.2.1] at hT
      have HG7 : Hid (QX W0 w7 q T6 S1 ∧ Kp W0 w7) := ⟨HG6.out.1.kept k7, HG6.out.2.trans k7⟩
      clear k7 HG6 hGe
      go_wp2_with fail
      refine hT.mono ?_; rintro e w8 ⟨rfl, zz⟩
      obtain ⟨T8, x8, k8⟩ := nz_step HG7.out.1 HG7.out.2 zz
      obtain ⟨tk, htk⟩ : ∃ tk, tk = gtI S1.L (2 * (kk : Int)) := ⟨_, rfl⟩
      rw [← htk]
      unfold itV
      have k8' : Kp w8 (w8.alloc (.cells #[.int .i64 tk.b, .string tk.d, .int .i64 tk.g] 31)) := (Kp.refl w8).alloc _
      have HG8 : Hid (QX W0 (w8.alloc (.cells #[.int .i64 tk.b, .string tk.d, .int .i64 tk.g] 31)) q T8 S2 ∧ Kp W0 (w8.alloc (.cells #[.int .i64 tk.b, .string tk.d, .int .i64 tk.g] 31))) := ⟨x8.kept k8', k8.trans k8'⟩
      clear hT zz x8 k8 HG7 htk k8'
      go_wp2_with fail
      refine (qwakes_any _).mono ?_; rintro e w9 ⟨rfl, k9⟩
      have HG9 : Hid (QX W0 w9 q T8 S2 ∧ Kp W0 w9) := ⟨HG8.out.1.kept k9, HG8.out.2.trans k9⟩
      have y1 := HG9.out.2.held c1
      clear k9 HG8
      go_wp2_with fail
      refine (hS2 w9).mono ?_; rintro e w10 ⟨rfl, k10⟩
      have hFu := qfull_any (HG9.out.1.kept k10) H2.out.2.2.2.1.l H2.out.2.2.2.1.m
      rw [H2.out.2.2.2.2.1] at hFu
      have HG10 : Hid (QX W0 w10 q T8 S2 ∧ Kp W0 w10) := ⟨HG9.out.1.kept k10, HG9.out.2.trans k10⟩
      clear k10 HG9 y1
      go_wp2_with fail
      refine hFu.mono ?_; rintro e w11 ⟨rfl, k11⟩
      have HG11 : Hid (QX W0 w11 q T8 S2 ∧ Kp W0 w11) := ⟨HG10.out.1.kept k11, HG10.out.2.trans k11⟩
      have y1 := HG11.out.2.held c1
      clear k11 HG10 hFu
      go_wp2_with fail
      refine (hS w11).mono ?_; rintro e w12 ⟨rfl, k12⟩
      have hP := qput_any (HG11.out.1.kept k12) H2.out.2.2.2.1 1 ds
      rw [H2.out.2.2.2.2.2.1, H2.out.2.2.2.2.2.2.1] at hP
      have HG12 : Hid (QX W0 w12 q T8 S2 ∧ Kp W0 w12) := ⟨HG11.out.1.kept k12, HG11.out.2.trans k12⟩
      clear k12 HG11 y1
      go_wp2_with fail
      refine hP.mono ?_; rintro e w13 ⟨rfl, zz⟩
      obtain ⟨T13, x13, k13⟩ := nz_step HG12.out.1 HG12.out.2 zz
      have hFu := qfull_any x13 H2.out.2.2.2.2.2.2.2.1.l H2.out.2.2.2.2.2.2.2.1.m
      rw [H2.out.2.2.2.2.2.2.2.2] at hFu
      have HG13 : Hid (Kp W0 w13) := k13
      clear hP zz x13 k13 HG12
      go_wp2_with fail
      refine hFu.mono ?_; rintro e w14 ⟨rfl, k14⟩
      have HE : Hid (Kp w w14) := (HK0.out.trans HG13.out).trans k14
      clear k14 HG13 hFu
      go_wp2
      go_ret
      exact ⟨by simp, HE.out⟩

set_option maxRecDepth 100000 in
theorem lifted (os : Os) (started : os.Started) (H : Type) (enc : TypeId × Value → H) :
    ReturnsInHanded {} Try.checked os 6 .any (Rows.queueFullSpec.pre6 enc Try.prog Try.f6 Rows.queueFullRow.domain false) (Rows.queueFullSpec.post enc Try.prog Try.f6 false true false false) := by
  refine returnsInHanded_of_change (C := Try.checked) own started (by kernel_rfl) Try.func6
    (ChangeSpec.witness6 (enc := enc) (C := Try.checked) false ⟨#[], #[.int .i64 0, .agg #[.int .i64 0, .int .u8 0, .bool false, .bool false]], []⟩ 8 (by kernel_rfl) (by kernel_rfl) (by kernel_rfl) (by kernel_rfl)) ?_
  intro W base args ds gs before hval0 hW hcnd _
  have hval : ∀ (j : Nat) t v, Try.f6.params[j]? = some t → args[j]? = some v → Value.okWide Try.prog W .any base t v := hval0
  have hW' := hW
  have hlt := hW.lt
  obtain ⟨p, q, hA0, hV, rfl, hfz, hnd⟩ := hW
  have hA : DataW.TrodAll enc Try.prog W 0 (fun _ => true) true Try.f6.params.toList args.toList ds p := hA0
  have hAk := hA
  rw [Try.params6] at hA hval
  obtain ⟨v0, vs0, d0, ds0, p0, q0, hargs, rfl, rfl, h0, r0⟩ := trodAll_cons hA
  obtain ⟨v1, vs1, d1, ds1, p1, q1, rfl, rfl, rfl, h1, r1⟩ := trodAll_cons r0
  obtain ⟨rfl, rfl, rfl⟩ := trodAll_nil r1
  obtain rfl : args = #[v0, v1] := by cases args; simp_all
  obtain ⟨rfl, rfl⟩ := trodVars_none hV
  obtain ⟨a0, rfl, rfl, rfl, w0⟩ := open_int Try.underlying3 (hval 0 3 v0 rfl rfl) h0
  obtain ⟨a1, rfl, w1⟩ := open_a20 (hval 1 29 v1 rfl rfl) h1
  clear hA0 hval0
  simp only [List.append_nil] at hW' hAk hlt
  refine (walk W a0 a1 w0 w1).mono fun e W' ⟨he, hg⟩ => ?_
  subst he
  exact ⟨_, rfl, post_kp (pv := []) hW' (fun _ _ _ => (trodAll_cons_mk (shut_bool Try.underlying4 _) trodAll_mk0)) (fun sp hsp => trodAll_stays laidOut (by rw [Try.params6]; exact of_decide_eq_true (by kernel_rfl)) hAk (fun x hx => Below.same hg (hlt x hx)) hsp) (fun _ _ => rfl) (by simp) hg⟩

theorem over : Rows.queueFullRow.holds Try.pinned (OpenSpec.ofChange Rows.queueFullSpec) :=
  OpenClaim.holds_of_wide 6 Try.f6 rfl rfl rfl rfl rfl rfl rfl ⟨rfl, rfl, rfl, rfl, rfl⟩ rfl rfl rfl rfl rfl (by kernel_rfl) Try.func6 (by kernel_rfl)
    (of_decide_eq_true (by kernel_rfl)) (by unfold Func.isWrapper; first | (rw [if_pos (by decide +kernel)]; kernel_rfl) | (rw [if_neg (by decide +kernel)]; exact ⟨rfl, rfl⟩))
    (fun os started H enc _ => lifted os started H enc)

end Go.Proofs.Ytdfdoinhkjoalaa.queueFull
namespace Go.Proofs.Ytdfdoinhkjoalaa
theorem queueFull_holds : Rows.QueueFullSaid := queueFull.over
end Go.Proofs.Ytdfdoinhkjoalaa
