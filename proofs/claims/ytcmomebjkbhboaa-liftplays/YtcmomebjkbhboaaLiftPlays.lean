/-
  LiftPlays: for every input the law answers true, and its arguments read as before. No condition.
-/
import Derived.Test.YtcmomebjkbhboaaRows
import Derived.Test.YtcmomebjkbhboaaBufArgs
import Derived.Test.YtcmomebjkbhboaaLfSame
import Derived.WalkKit
import Derived.ProofKit
import Derived.OpenShut
import Derived.ShutString
import Derived.Deep.QuietTactic
import Derived.BigQuiet
import Derived.Deep.RegionWith
import Derived.Deep.RegionHeld3
import Derived.Deep.DeepCutAuto
import Derived.Deep.CutBlock
namespace Go.Proofs.Ytcmomebjkbhboaa.liftPlays
open Go.ChangeShapes Go.WideShapes Go.ChangeAt Go.RowKit
open Go.ChangeMaps (open_string shut_string)
open Go.Proofs.Ytcmomebjkbhboaa Plain
set_option linter.unusedVariables false

theorem own : ownKnob Try.prog.godebug = none := by kernel_rfl
theorem laidOut : laidOutB Try.prog = true := by kernel_rfl
set_option maxRecDepth 100000 in
set_option maxHeartbeats 8000000 in
theorem walk (w : World) (a0 : Int) (a1 : Value) (l1 : List Wt) (w0 : (Lit.int .i64 a0).wf = true) (w1 : WtIn w a1 l1) :
    Calls Try.prog 3 #[.int .i64 a0, a1] w fun e w' => e = .returned (.bool true) ∧ Kp w w' := by
  clear w0
  obtain ⟨pa, pg, po, pc, rfl, hA⟩ := w1
  obtain ⟨ln, hln⟩ : ∃ ln, ln = l1.length := ⟨_, rfl⟩
  have hp1 := hA.le
  have hp2 := hA.mx
  unfold maxLen at hp2
  rw [← hln] at hp1 ⊢
  have hpa : 0 < ln → pa = some ⟨pg, po, none⟩ := by rw [hln]; exact hA.ha
  have HPC : Hid (∀ V, Kp w V → ∀ i, i < ln → V.cell? ⟨pg, po + i * 2, none⟩ = some (.int .i64 (l1.getD i wz).k) ∧ V.cell? ⟨pg, po + i * 2 + 1, none⟩ = some (.int .i64 (l1.getD i wz).n)) := fun V k i hi => ⟨k.held (hA.c0 i (by omega)), k.held (hA.c1 i (by omega))⟩
  clear hA hln
  obtain ⟨kk, ekk⟩ : ∃ k, k = min ln 80 := ⟨_, rfl⟩
  have hmin : ∀ ts t W, (Builtin.min_ ts t #[.int .i64 (ln : Int), .int .i64 80]).run Try.prog W = .ok (.int .i64 (kk : Int)) W := fun ts t W => by
    rw [imin ts t _ _ W]
    congr 2
    omega
  have hk1 : kk ≤ ln := by omega
  have hk80 : kk ≤ 80 := by omega
  clear ekk
  have HM3 := hid mask3
  have hN := lnew_any w a0 w (Nat.le_refl _)
  go_enter Try.func3, Try.ntmps3
  go_wp2_with fail
  refine hN.mono ?_; rintro e u1 ⟨l, T1, rfl, x1, k1, t1⟩
  clear hN
  have hN := rnew_any w a0 u1 k1.size
  have H1 := hid (And.intro x1 k1)
  clear x1 k1 t1
  go_wp2_with fail
  refine hN.mono ?_; rintro e u2 ⟨r, T2, rfl, x2, k2, t2⟩
  clear hN
  have HZ2 : Hid (Pz w u2 l r ⟨[], gA a0, 0⟩ ⟨[], gA a0, 0⟩) := ⟨T1, T2, H1.out.1.kept k2, x2, fun t ht h2 => by have h3 := OL.lx.low H1.out.1 t ht; have h4 := t2 t h2; omega, H1.out.2.trans k2⟩
  clear x2 k2 t2 H1
  go_wp2_with fail
  refine (wakes_any u2).mono ?_; rintro e U ⟨rfl, k3⟩
  have H0 : Hid (Pz w U l r ⟨[], gA a0, 0⟩ ⟨[], gA a0, 0⟩ ∧ Lg ⟨[], gA a0, 0⟩ ((0 : Nat) : Int)) := ⟨HZ2.out.kp k3, Lg.new a0⟩
  clear k3 HZ2
  go_upto_region 4 with fail
  go_cut [26, 27, 28] (fun p qq i wx => ∃ a', p = .slice a' kk pc ∧ qq = .int .i64 (kk : Int) ∧ i = .int .i64 ((0 : Nat) : Int) ∧ (0 < kk → a' = some ⟨pg, po, none⟩) ∧ U = wx)
  case first =>
    by_cases h0 : 0 < ln
    · obtain rfl := hpa h0
      go_wp2_with fail
      go_meet
      exact ⟨_, rfl, rfl, rfl, fun _ => rfl, rfl⟩
    · have hn0 : ln = 0 := by omega
      subst hn0
      obtain rfl : kk = 0 := by omega
      cases pa with
      | none =>
        go_wp2_with fail
        go_meet
        exact ⟨_, rfl, rfl, rfl, fun h => absurd h (by omega), rfl⟩
      | some ad =>
        go_wp2_with fail
        go_meet
        exact ⟨_, rfl, rfl, rfl, fun h => absurd h (by omega), rfl⟩
  case rest =>
  obtain ⟨a', rfl, rfl, rfl, ha', rfl⟩ := hcut
  go_wp2_with fail
  go_loopw [9, 10, 11, 12, 13, 14, 15, 28] (fun _ _ _ _ _ _ _ i wr => ∃ (k : Nat) (S : LS), k ≤ kk ∧ i = .int .i64 k ∧ Hid (Pz w wr l r S S ∧ Lg S (k : Int))) (fun _ _ _ _ _ _ _ i _ => kk - (intOf i).toNat)
  case atStart => exact ⟨0, ⟨[], gA a0, 0⟩, by omega, by go_num, H0⟩
  case round =>
    clear H0
    obtain ⟨k, S, hk, rfl, HQ⟩ := hrel
    by_cases hlt : k < kk
    · obtain rfl := ha' (by omega)
      have hKw : Kp w wr := by obtain ⟨_, _, _, _, _, h⟩ := HQ.out.1; exact h
      obtain ⟨c0, c1⟩ := HPC.out wr hKw k (by omega)
      obtain ⟨dd, hdd⟩ : ∃ z, z = (l1.getD k wz).k := ⟨_, rfl⟩
      obtain ⟨b, hb⟩ : ∃ z, z = (l1.getD k wz).n := ⟨_, rfl⟩
      rw [← hdd] at c0
      rw [← hb] at c1
      obtain ⟨V, hV⟩ : ∃ V, V = wr.alloc (.cells #[.int .i64 dd, .int .i64 b] 29) := ⟨_, rfl⟩
      obtain ⟨H, hH⟩ : ∃ H, H = wr.heap.size := ⟨_, rfl⟩
      have HV : Hid (V = wr.alloc (.cells #[.int .i64 dd, .int .i64 b] 29) ∧ H = wr.heap.size) := ⟨hV, hH⟩
      have HB : Hid (Pb w V l r S S H #[.int .i64 dd, .int .i64 b] 29 ∧ Lg S (k : Int)) := by
        refine ⟨?_, HQ.out.2⟩
        rw [hV, hH]; exact HQ.out.1.box _ _
      have HBC : Hid (∀ X S' R', Pb w X l r S' R' H #[.int .i64 dd, .int .i64 b] 29 → X.cell? ⟨H, 1, none⟩ = some (.int .i64 b)) := fun X S' R' h => by
        obtain ⟨_, _, _, _, _, _, _, _, h⟩ := h
        exact cell_of h 1
      have e0 : V.cell? ⟨H, 0, none⟩ = some (.int .i64 dd) := by rw [hV, hH, World.cell?_alloc_at _ _ _ _ rfl]; rfl
      clear hdd hb hV hH hKw HQ
      go_upto_region 7 with fail
      rw [← HV.out.1, ← HV.out.2]
      clear HV c0 c1
      have hm3 := HM3.out dd
      obtain ⟨d4, hd4⟩ : ∃ d4, d4 = dd % 4 := ⟨_, rfl⟩
      rw [← hd4] at hm3
      clear hd4
      by_cases hd2 : d4 = 2
      · have hd3 : (d4 == 2) = true := by simp [hd2]
        clear hd2
        by_cases hl0 : S.L.length = 0
        · obtain ⟨T1', T2', y1, y2, y3, y4, _⟩ := HB.out.1
          have hP := pick_none y1 hl0
          have hP2 := fun X' (kx : Kp V X') => rpick_none (y2.kept kx) hl0
          clear y1 y2 y3 y4 hl0
          go_wp2_with fail
          refine hP.mono ?_; rintro e v1 ⟨rfl, k1⟩
          have hP3 := hP2 v1 k1
          clear hP hP2
          go_wp2_with fail
          refine hP3.mono ?_; rintro e X ⟨rfl, k2⟩
          have HE : Hid (Pb w X l r S S H #[.int .i64 dd, .int .i64 b] 29 ∧ Lg S ((k : Int) + 1)) := ⟨(HB.out.1.kp k1).kp k2, HB.out.2.mono (by omega)⟩
          obtain ⟨S', hS'⟩ : ∃ S', S' = S := ⟨_, rfl⟩
          rw [← hS'] at HE
          clear hP3 k1 k2 HB hS' e0
          have e1 : X.cell? ⟨H, 1, none⟩ = some (.int .i64 b) := HBC.out X _ _ HE.out.1
          obtain ⟨T1, T2, x1, x2, x3, x4, _⟩ := HE.out.1
          have hW := waited_any x1 HE.out.2.l b
          have hF := fun X' (k : Kp X X') => rfind_any (x2.kept k) HE.out.2.l b
          have hSm := fun X' (k : Kp X X') => same_any (x1.kept k) (x2.kept k) HE.out.2
          obtain ⟨hs0, hhs0⟩ : ∃ hs0, hs0 = hsW S'.L b := ⟨_, rfl⟩
          obtain ⟨wn0, hwn0⟩ : ∃ wn0, wn0 = wtN S'.L b := ⟨_, rfl⟩
          have HZ : Hid (hs0 = hsW S'.L b ∧ wn0 = wtN S'.L b) := ⟨hhs0, hwn0⟩
          rw [← hhs0, ← hwn0] at hW
          clear x1 x2 x3 x4 hhs0 hwn0
          go_wp2_with fail
          refine hW.mono ?_; rintro e v1 ⟨rfl, k1⟩
          have e1 := k1.held e1
          have hF1 := hF v1 k1
          clear hW hF
          go_wp2_with fail
          refine hF1.mono ?_; rintro e v2 ⟨z, rfl, hz, rfl⟩
          have hS1 := hSm v2 k1
          have hz2 : (0 ≤ z ∧ hs0 = true) ∨ (z = -1 ∧ hs0 = false ∧ wn0 = 0) := by
            rcases hz with ⟨rfl, hno⟩ | ⟨A, y, B, f1, rfl, f2, f3⟩
            · exact .inr ⟨rfl, by rw [HZ.out.1]; exact (hs_not _ _).2 hno, by rw [HZ.out.2]; exact wt_miss hno⟩
            · exact .inl ⟨by omega, by rw [HZ.out.1]; exact (hs_iff _ _).2 ⟨y, by rw [f1]; simp, f2⟩⟩
          have HE2 : Hid (Pb w v2 l r S' S' H #[.int .i64 dd, .int .i64 b] 29 ∧ Lg S' ((k : Int) + 1)) := ⟨HE.out.1.kp k1, HE.out.2⟩
          clear hF1 hz HZ hSm HE k1 e1
          rcases hz2 with ⟨hz0, rfl⟩ | ⟨rfl, rfl, rfl⟩
          · have hz1 : decide (0 ≤ z) = true := decide_eq_true hz0
            go_wp2_with fail
            refine hS1.mono ?_; rintro e v3 ⟨rfl, k3⟩
            have HE3 : Hid (Pz w v3 l r S' S' ∧ Lg S' (((k + 1 : Nat)) : Int)) := ⟨(HE2.out.1.kp k3).pz, by rw [show (((k + 1 : Nat)) : Int) = (k : Int) + 1 by omega]; exact HE2.out.2⟩
            clear hS1 k3 HE2 hz0
            go_wp2
            go_roundw
            case rel => first | exact ⟨k + 1, S', by omega, by go_num, HE3⟩ | (repeat apply Exists.intro) <;> exact ⟨⟨k + 1, S', by omega, by go_num, HE3⟩, rfl⟩
            case measure => simp [intOf]; omega
          · go_wp2_with fail
            refine hS1.mono ?_; rintro e v3 ⟨rfl, k3⟩
            have HE3 : Hid (Pz w v3 l r S' S' ∧ Lg S' (((k + 1 : Nat)) : Int)) := ⟨(HE2.out.1.kp k3).pz, by rw [show (((k + 1 : Nat)) : Int) = (k : Int) + 1 by omega]; exact HE2.out.2⟩
            clear hS1 k3 HE2
            go_wp2
            go_roundw
            case rel => first | exact ⟨k + 1, S', by omega, by go_num, HE3⟩ | (repeat apply Exists.intro) <;> exact ⟨⟨k + 1, S', by omega, by go_num, HE3⟩, rfl⟩
            case measure => simp [intOf]; omega
        · have hP := HB.out.1.pick HB.out.2 (by omega) (by omega)
          go_wp2_with fail
          refine hP.mono ?_; rintro e v1 ⟨k1, rfl, nx1, b1⟩
          have hP2 := b1.rpick HB.out.2 (by omega) (by omega)
          have HNX := hid nx1
          clear hP nx1 b1 hl0
          go_wp2_with fail
          refine hP2.mono ?_; rintro e X ⟨k2, rfl, nx2, b2⟩
          obtain rfl := nx_one HNX.out nx2
          have HE : Hid (Pb w X l r (pkS S k1) (pkS S k1) H #[.int .i64 dd, .int .i64 b] 29 ∧ Lg (pkS S k1) ((k : Int) + 1)) := ⟨b2, HB.out.2.pick k1⟩
          obtain ⟨S', hS'⟩ : ∃ S', S' = pkS S k1 := ⟨_, rfl⟩
          rw [← hS'] at HE
          clear hP2 nx2 b2 HNX HB hS' e0
          have e1 : X.cell? ⟨H, 1, none⟩ = some (.int .i64 b) := HBC.out X _ _ HE.out.1
          obtain ⟨T1, T2, x1, x2, x3, x4, _⟩ := HE.out.1
          have hW := waited_any x1 HE.out.2.l b
          have hF := fun X' (k : Kp X X') => rfind_any (x2.kept k) HE.out.2.l b
          have hSm := fun X' (k : Kp X X') => same_any (x1.kept k) (x2.kept k) HE.out.2
          obtain ⟨hs0, hhs0⟩ : ∃ hs0, hs0 = hsW S'.L b := ⟨_, rfl⟩
          obtain ⟨wn0, hwn0⟩ : ∃ wn0, wn0 = wtN S'.L b := ⟨_, rfl⟩
          have HZ : Hid (hs0 = hsW S'.L b ∧ wn0 = wtN S'.L b) := ⟨hhs0, hwn0⟩
          rw [← hhs0, ← hwn0] at hW
          clear x1 x2 x3 x4 hhs0 hwn0
          go_wp2_with fail
          refine hW.mono ?_; rintro e v1 ⟨rfl, k1⟩
          have e1 := k1.held e1
          have hF1 := hF v1 k1
          clear hW hF
          go_wp2_with fail
          refine hF1.mono ?_; rintro e v2 ⟨z, rfl, hz, rfl⟩
          have hS1 := hSm v2 k1
          have hz2 : (0 ≤ z ∧ hs0 = true) ∨ (z = -1 ∧ hs0 = false ∧ wn0 = 0) := by
            rcases hz with ⟨rfl, hno⟩ | ⟨A, y, B, f1, rfl, f2, f3⟩
            · exact .inr ⟨rfl, by rw [HZ.out.1]; exact (hs_not _ _).2 hno, by rw [HZ.out.2]; exact wt_miss hno⟩
            · exact .inl ⟨by omega, by rw [HZ.out.1]; exact (hs_iff _ _).2 ⟨y, by rw [f1]; simp, f2⟩⟩
          have HE2 : Hid (Pb w v2 l r S' S' H #[.int .i64 dd, .int .i64 b] 29 ∧ Lg S' ((k : Int) + 1)) := ⟨HE.out.1.kp k1, HE.out.2⟩
          clear hF1 hz HZ hSm HE k1 e1
          rcases hz2 with ⟨hz0, rfl⟩ | ⟨rfl, rfl, rfl⟩
          · have hz1 : decide (0 ≤ z) = true := decide_eq_true hz0
            go_wp2_with fail
            refine hS1.mono ?_; rintro e v3 ⟨rfl, k3⟩
            have HE3 : Hid (Pz w v3 l r S' S' ∧ Lg S' (((k + 1 : Nat)) : Int)) := ⟨(HE2.out.1.kp k3).pz, by rw [show (((k + 1 : Nat)) : Int) = (k : Int) + 1 by omega]; exact HE2.out.2⟩
            clear hS1 k3 HE2 hz0
            go_wp2
            go_roundw
            case rel => first | exact ⟨k + 1, S', by omega, by go_num, HE3⟩ | (repeat apply Exists.intro) <;> exact ⟨⟨k + 1, S', by omega, by go_num, HE3⟩, rfl⟩
            case measure => simp [intOf]; omega
          · go_wp2_with fail
            refine hS1.mono ?_; rintro e v3 ⟨rfl, k3⟩
            have HE3 : Hid (Pz w v3 l r S' S' ∧ Lg S' (((k + 1 : Nat)) : Int)) := ⟨(HE2.out.1.kp k3).pz, by rw [show (((k + 1 : Nat)) : Int) = (k : Int) + 1 by omega]; exact HE2.out.2⟩
            clear hS1 k3 HE2
            go_wp2
            go_roundw
            case rel => first | exact ⟨k + 1, S', by omega, by go_num, HE3⟩ | (repeat apply Exists.intro) <;> exact ⟨⟨k + 1, S', by omega, by go_num, HE3⟩, rfl⟩
            case measure => simp [intOf]; omega
      · have hd3 : (d4 == 2) = false := by simp [hd2]
        have hS : ∀ S' R' X, Pb w X l r S' R' H #[.int .i64 dd, .int .i64 b] 29 → X.cell? ⟨H, 1, none⟩ = some (.int .i64 b) := fun S' R' X h => HBC.out X S' R' h
        have hr0 : Pb w V l r S S H #[.int .i64 dd, .int .i64 b] 29 := HB.out.1
        have hr1 : Pb w V.drew l r S S H #[.int .i64 dd, .int .i64 b] 29 := HB.out.1.kp ((Kp.refl V).drew)
        by_cases hd5 : d4 = 3
        · have hd6 : (d4 == 3) = true := by simp [hd5]
          clear hd2 hd5
          obtain ⟨hs1, hhs1⟩ : ∃ hs1, hs1 = hsW S.L b := ⟨_, rfl⟩
          have cP1 : ∀ X, Pb w X l r S S H #[.int .i64 dd, .int .i64 b] 29 → Calls Try.prog 12 #[.pointer (some ⟨l, 0, none⟩), .int .i64 b] X fun e X' => e = .returned (.bool hs1) ∧ Pb w X' l r ⟨dlL S.L b, S.g, S.h⟩ S H #[.int .i64 dd, .int .i64 b] 29 := fun X h => by rw [hhs1]; exact h.drop HB.out.2.l HB.out.2.nd b
          have cP2 : ∀ X, Pb w X l r ⟨dlL S.L b, S.g, S.h⟩ S H #[.int .i64 dd, .int .i64 b] 29 → Calls Try.prog 13 #[.pointer (some ⟨r, 0, none⟩), .int .i64 b] X fun e X' => e = .returned (.bool hs1) ∧ Pb w X' l r ⟨dlL S.L b, S.g, S.h⟩ ⟨dlL S.L b, S.g, S.h⟩ H #[.int .i64 dd, .int .i64 b] 29 := fun X h => by rw [hhs1]; exact h.rdrop HB.out.2.l HB.out.2.nd b
          clear hhs1
          go_upto_region 16 with fail
          go_region_held3 (fun X => X.cell? ⟨H, 1, none⟩ = some (.int .i64 b)) (exact hS _ _ _ (by assumption)) (first
            | (go_at_call 12; refine (cP1 _ (by assumption)).mono ?_; rintro e vb ⟨rfl, kb⟩)
            | (go_at_call 13; refine (cP2 _ (by assumption)).mono ?_; rintro e X ⟨rfl, kc⟩))
          have HE : Hid (Pb w X l r ⟨dlL S.L b, S.g, S.h⟩ ⟨dlL S.L b, S.g, S.h⟩ H #[.int .i64 dd, .int .i64 b] 29 ∧ Lg ⟨dlL S.L b, S.g, S.h⟩ ((k : Int) + 1)) := ⟨kc, (HB.out.2.drop b).mono (by omega)⟩
          obtain ⟨S', hS'⟩ : ∃ S' : LS, S' = ⟨dlL S.L b, S.g, S.h⟩ := ⟨_, rfl⟩
          rw [← hS'] at HE
          clear cP1 cP2 hS hr0 hr1 kc HB hS' e0
          have hbne : (hs1 != hs1) = false := by simp
          have e1 : X.cell? ⟨H, 1, none⟩ = some (.int .i64 b) := HBC.out X _ _ HE.out.1
          obtain ⟨T1, T2, x1, x2, x3, x4, _⟩ := HE.out.1
          have hW := waited_any x1 HE.out.2.l b
          have hF := fun X' (k : Kp X X') => rfind_any (x2.kept k) HE.out.2.l b
          have hSm := fun X' (k : Kp X X') => same_any (x1.kept k) (x2.kept k) HE.out.2
          obtain ⟨hs0, hhs0⟩ : ∃ hs0, hs0 = hsW S'.L b := ⟨_, rfl⟩
          obtain ⟨wn0, hwn0⟩ : ∃ wn0, wn0 = wtN S'.L b := ⟨_, rfl⟩
          have HZ : Hid (hs0 = hsW S'.L b ∧ wn0 = wtN S'.L b) := ⟨hhs0, hwn0⟩
          rw [← hhs0, ← hwn0] at hW
          clear x1 x2 x3 x4 hhs0 hwn0
          go_wp2_with fail
          refine hW.mono ?_; rintro e v1 ⟨rfl, k1⟩
          have e1 := k1.held e1
          have hF1 := hF v1 k1
          clear hW hF
          go_wp2_with fail
          refine hF1.mono ?_; rintro e v2 ⟨z, rfl, hz, rfl⟩
          have hS1 := hSm v2 k1
          have hz2 : (0 ≤ z ∧ hs0 = true) ∨ (z = -1 ∧ hs0 = false ∧ wn0 = 0) := by
            rcases hz with ⟨rfl, hno⟩ | ⟨A, y, B, f1, rfl, f2, f3⟩
            · exact .inr ⟨rfl, by rw [HZ.out.1]; exact (hs_not _ _).2 hno, by rw [HZ.out.2]; exact wt_miss hno⟩
            · exact .inl ⟨by omega, by rw [HZ.out.1]; exact (hs_iff _ _).2 ⟨y, by rw [f1]; simp, f2⟩⟩
          have HE2 : Hid (Pb w v2 l r S' S' H #[.int .i64 dd, .int .i64 b] 29 ∧ Lg S' ((k : Int) + 1)) := ⟨HE.out.1.kp k1, HE.out.2⟩
          clear hF1 hz HZ hSm HE k1 e1
          rcases hz2 with ⟨hz0, rfl⟩ | ⟨rfl, rfl, rfl⟩
          · have hz1 : decide (0 ≤ z) = true := decide_eq_true hz0
            go_wp2_with fail
            refine hS1.mono ?_; rintro e v3 ⟨rfl, k3⟩
            have HE3 : Hid (Pz w v3 l r S' S' ∧ Lg S' (((k + 1 : Nat)) : Int)) := ⟨(HE2.out.1.kp k3).pz, by rw [show (((k + 1 : Nat)) : Int) = (k : Int) + 1 by omega]; exact HE2.out.2⟩
            clear hS1 k3 HE2 hz0
            go_wp2
            go_roundw
            case rel => first | exact ⟨k + 1, S', by omega, by go_num, HE3⟩ | (repeat apply Exists.intro) <;> exact ⟨⟨k + 1, S', by omega, by go_num, HE3⟩, rfl⟩
            case measure => simp [intOf]; omega
          · go_wp2_with fail
            refine hS1.mono ?_; rintro e v3 ⟨rfl, k3⟩
            have HE3 : Hid (Pz w v3 l r S' S' ∧ Lg S' (((k + 1 : Nat)) : Int)) := ⟨(HE2.out.1.kp k3).pz, by rw [show (((k + 1 : Nat)) : Int) = (k : Int) + 1 by omega]; exact HE2.out.2⟩
            clear hS1 k3 HE2
            go_wp2
            go_roundw
            case rel => first | exact ⟨k + 1, S', by omega, by go_num, HE3⟩ | (repeat apply Exists.intro) <;> exact ⟨⟨k + 1, S', by omega, by go_num, HE3⟩, rfl⟩
            case measure => simp [intOf]; omega
        · have hd6 : (d4 == 3) = false := by simp [hd5]
          clear hd2 hd5
          obtain ⟨ee, hee⟩ : ∃ ee, ee = adE S b := ⟨_, rfl⟩
          have cP1 : ∀ X, Pb w X l r S S H #[.int .i64 dd, .int .i64 b] 29 → Calls Try.prog 14 #[.pointer (some ⟨l, 0, none⟩), .int .i64 b] X fun e X' => e = .returned (.int .i64 ee) ∧ Pb w X' l r (adS S b) S H #[.int .i64 dd, .int .i64 b] 29 := fun X h => by rw [hee]; exact h.add HB.out.2.l b
          have cP2 : ∀ X, Pb w X l r (adS S b) S H #[.int .i64 dd, .int .i64 b] 29 → Calls Try.prog 15 #[.pointer (some ⟨r, 0, none⟩), .int .i64 b] X fun e X' => e = .returned (.int .i64 ee) ∧ Pb w X' l r (adS S b) (adS S b) H #[.int .i64 dd, .int .i64 b] 29 := fun X h => by rw [hee]; exact h.radd HB.out.2.l b
          clear hee
          go_upto_region 8 with fail
          go_region_held3 (fun X => X.cell? ⟨H, 1, none⟩ = some (.int .i64 b)) (exact hS _ _ _ (by assumption)) (first
            | (go_at_call 14; refine (cP1 _ (by assumption)).mono ?_; rintro e vb ⟨rfl, kb⟩)
            | (go_at_call 15; refine (cP2 _ (by assumption)).mono ?_; rintro e X ⟨rfl, kc⟩))
          have HE : Hid (Pb w X l r (adS S b) (adS S b) H #[.int .i64 dd, .int .i64 b] 29 ∧ Lg (adS S b) ((k : Int) + 1)) := ⟨kc, (HB.out.2.add (by omega) b).mono (by omega)⟩
          obtain ⟨S', hS'⟩ : ∃ S' : LS, S' = adS S b := ⟨_, rfl⟩
          rw [← hS'] at HE
          clear cP1 cP2 hS hr0 hr1 kc HB hS' e0
          have hbne : (ee != ee) = false := by simp
          have e1 : X.cell? ⟨H, 1, none⟩ = some (.int .i64 b) := HBC.out X _ _ HE.out.1
          obtain ⟨T1, T2, x1, x2, x3, x4, _⟩ := HE.out.1
          have hW := waited_any x1 HE.out.2.l b
          have hF := fun X' (k : Kp X X') => rfind_any (x2.kept k) HE.out.2.l b
          have hSm := fun X' (k : Kp X X') => same_any (x1.kept k) (x2.kept k) HE.out.2
          obtain ⟨hs0, hhs0⟩ : ∃ hs0, hs0 = hsW S'.L b := ⟨_, rfl⟩
          obtain ⟨wn0, hwn0⟩ : ∃ wn0, wn0 = wtN S'.L b := ⟨_, rfl⟩
          have HZ : Hid (hs0 = hsW S'.L b ∧ wn0 = wtN S'.L b) := ⟨hhs0, hwn0⟩
          rw [← hhs0, ← hwn0] at hW
          clear x1 x2 x3 x4 hhs0 hwn0
          go_wp2_with fail
          refine hW.mono ?_; rintro e v1 ⟨rfl, k1⟩
          have e1 := k1.held e1
          have hF1 := hF v1 k1
          clear hW hF
          go_wp2_with fail
          refine hF1.mono ?_; rintro e v2 ⟨z, rfl, hz, rfl⟩
          have hS1 := hSm v2 k1
          have hz2 : (0 ≤ z ∧ hs0 = true) ∨ (z = -1 ∧ hs0 = false ∧ wn0 = 0) := by
            rcases hz with ⟨rfl, hno⟩ | ⟨A, y, B, f1, rfl, f2, f3⟩
            · exact .inr ⟨rfl, by rw [HZ.out.1]; exact (hs_not _ _).2 hno, by rw [HZ.out.2]; exact wt_miss hno⟩
            · exact .inl ⟨by omega, by rw [HZ.out.1]; exact (hs_iff _ _).2 ⟨y, by rw [f1]; simp, f2⟩⟩
          have HE2 : Hid (Pb w v2 l r S' S' H #[.int .i64 dd, .int .i64 b] 29 ∧ Lg S' ((k : Int) + 1)) := ⟨HE.out.1.kp k1, HE.out.2⟩
          clear hF1 hz HZ hSm HE k1 e1
          rcases hz2 with ⟨hz0, rfl⟩ | ⟨rfl, rfl, rfl⟩
          · have hz1 : decide (0 ≤ z) = true := decide_eq_true hz0
            go_wp2_with fail
            refine hS1.mono ?_; rintro e v3 ⟨rfl, k3⟩
            have HE3 : Hid (Pz w v3 l r S' S' ∧ Lg S' (((k + 1 : Nat)) : Int)) := ⟨(HE2.out.1.kp k3).pz, by rw [show (((k + 1 : Nat)) : Int) = (k : Int) + 1 by omega]; exact HE2.out.2⟩
            clear hS1 k3 HE2 hz0
            go_wp2
            go_roundw
            case rel => first | exact ⟨k + 1, S', by omega, by go_num, HE3⟩ | (repeat apply Exists.intro) <;> exact ⟨⟨k + 1, S', by omega, by go_num, HE3⟩, rfl⟩
            case measure => simp [intOf]; omega
          · go_wp2_with fail
            refine hS1.mono ?_; rintro e v3 ⟨rfl, k3⟩
            have HE3 : Hid (Pz w v3 l r S' S' ∧ Lg S' (((k + 1 : Nat)) : Int)) := ⟨(HE2.out.1.kp k3).pz, by rw [show (((k + 1 : Nat)) : Int) = (k : Int) + 1 by omega]; exact HE2.out.2⟩
            clear hS1 k3 HE2
            go_wp2
            go_roundw
            case rel => first | exact ⟨k + 1, S', by omega, by go_num, HE3⟩ | (repeat apply Exists.intro) <;> exact ⟨⟨k + 1, S', by omega, by go_num, HE3⟩, rfl⟩
            case measure => simp [intOf]; omega
    · go_wp2
      go_ret
      obtain ⟨_, _, _, _, _, h⟩ := HQ.out.1
      exact ⟨rfl, h⟩

set_option maxRecDepth 100000 in
theorem lifted (os : Os) (started : os.Started) (H : Type) (enc : TypeId × Value → H) :
    ReturnsInHanded {} Try.checked os 3 .any (Rows.liftPlaysSpec.pre6 enc Try.prog Try.f3 Rows.liftPlaysRow.domain false) (Rows.liftPlaysSpec.post enc Try.prog Try.f3 false true false false) := by
  refine returnsInHanded_of_change (C := Try.checked) own started (by kernel_rfl) Try.func3
    (ChangeSpec.witness6 (enc := enc) (C := Try.checked) false ⟨#[], #[.int .i64 0, .slice none 0 0], []⟩ 8 (by kernel_rfl) (by kernel_rfl) (by kernel_rfl) (by kernel_rfl)) ?_
  intro W base args ds gs before hval0 hW hcnd _
  have hval : ∀ (j : Nat) t v, Try.f3.params[j]? = some t → args[j]? = some v → Value.okWide Try.prog W .any base t v := hval0
  have hW' := hW
  have hlt := hW.lt
  obtain ⟨p, q, hA0, hV, rfl, hfz, hnd⟩ := hW
  have hA : DataW.TrodAll enc Try.prog W 0 (fun _ => true) true Try.f3.params.toList args.toList ds p := hA0
  have hAk := hA
  rw [Try.params3] at hA hval
  obtain ⟨v0, vs0, d0, ds0, p0, q0, hargs, rfl, rfl, h0, r0⟩ := trodAll_cons hA
  obtain ⟨v1, vs1, d1, ds1, p1, q1, rfl, rfl, rfl, h1, r1⟩ := trodAll_cons r0
  obtain ⟨rfl, rfl, rfl⟩ := trodAll_nil r1
  obtain rfl : args = #[v0, v1] := by cases args; simp_all
  obtain ⟨rfl, rfl⟩ := trodVars_none hV
  obtain ⟨a0, rfl, rfl, rfl, w0⟩ := open_int Try.underlying3 (hval 0 3 v0 rfl rfl) h0
  obtain ⟨l1, w1⟩ := open_as21 (hval 1 22 v1 rfl rfl) h1
  clear hA0 hval0
  simp only [List.append_nil] at hW' hAk hlt
  refine (walk W a0 v1 l1 w0 w1).mono fun e W' ⟨he, hg⟩ => ?_
  subst he
  exact ⟨_, rfl, post_kp (pv := []) hW' (fun _ _ _ => (trodAll_cons_mk (shut_bool Try.underlying4 _) trodAll_mk0)) (fun sp hsp => trodAll_stays laidOut (by rw [Try.params3]; exact of_decide_eq_true (by kernel_rfl)) hAk (fun x hx => Below.same hg (hlt x hx)) hsp) (fun _ _ => rfl) (by simp) hg⟩

theorem over : Rows.liftPlaysRow.holds Try.pinned (OpenSpec.ofChange Rows.liftPlaysSpec) :=
  OpenClaim.holds_of_wide 3 Try.f3 rfl rfl rfl rfl rfl rfl rfl ⟨rfl, rfl, rfl, rfl, rfl⟩ rfl rfl rfl rfl rfl (by kernel_rfl) Try.func3 (by kernel_rfl)
    (of_decide_eq_true (by kernel_rfl)) (by unfold Func.isWrapper; first | (rw [if_pos (by decide +kernel)]; kernel_rfl) | (rw [if_neg (by decide +kernel)]; exact ⟨rfl, rfl⟩))
    (fun os started H enc _ => lifted os started H enc)

end Go.Proofs.Ytcmomebjkbhboaa.liftPlays
namespace Go.Proofs.Ytcmomebjkbhboaa
theorem liftPlays_holds : Rows.LiftPlaysSaid := liftPlays.over
end Go.Proofs.Ytcmomebjkbhboaa
