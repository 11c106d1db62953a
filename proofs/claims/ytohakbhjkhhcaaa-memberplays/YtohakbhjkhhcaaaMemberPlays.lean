/-
  MemberPlays (P10.1 to P10.4): behind every calls a member answers, and has, what the document says. No condition.
-/
import Derived.Test.YtohakbhjkhhcaaaRows
import Derived.Test.YtohakbhjkhhcaaaBufArgs
import Derived.Test.YtohakbhjkhhcaaaMmActs
import Derived.WalkKit
import Derived.ProofKit
import Derived.OpenShut
import Derived.ShutString
import Derived.Deep.QuietTactic
import Derived.BigQuiet
import Derived.Deep.RegionWith
import Derived.Deep.RegionHeld3
import Derived.Deep.DeepCutAuto
import Derived.Deep.CutBlock
namespace Go.Proofs.Ytohakbhjkhhcaaa.memberPlays
open Go.ChangeShapes Go.WideShapes Go.ChangeAt Go.RowKit
open Go.ChangeMaps (open_string shut_string)
open Go.Proofs.Ytohakbhjkhhcaaa Plain
set_option linter.unusedVariables false

theorem own : ownKnob Try.prog.godebug = none := by kernel_rfl
theorem laidOut : laidOutB Try.prog = true := by kernel_rfl
set_option maxRecDepth 100000 in
set_option maxHeartbeats 4000000 in
theorem walkN (w : World) (k0 : Int) (v1 : Value) (l1 : List AC) (i1 : ActsIn w v1 l1) (i2 : ∀ i, i < l1.length → ∀ a n c, (l1.getD i noA).kv = .slice a n c → n ≤ c) :
    Calls Try.prog 3 #[.int .i64 k0, v1] w fun e w' => e = .returned (.bool true) ∧ Kp w w' := by
  obtain ⟨q1, cap1, rfl, p1, p2, z1_⟩ := i1.h
  clear z1_
  obtain ⟨n1, hn1⟩ : ∃ n1, n1 = l1.length := ⟨_, rfl⟩
  rw [← hn1] at i1 p1 ⊢
  have I1 := hid i1
  have I2 := hid i2
  have N1 := hid hn1
  clear i1 i2 hn1
  have hmin := @imin Try.prog
  obtain ⟨m1, e1⟩ : ∃ m : Nat, min (n1 : Int) 80 = (m : Int) := ⟨min n1 80, by omega⟩
  have hm1 : m1 ≤ n1 := by omega
  have hm3 : m1 ≤ 80 := by omega
  obtain ⟨N, hN⟩ : ∃ N, N = nw (nwN k0) := ⟨_, rfl⟩
  have HN := hid hN
  have HRN : Hid (Right N) := by rw [hN]; exact Right.nw _
  have HR0 : Hid (N.row.length = 0) := by rw [hN]; rfl
  clear hN
  go_enter Try.func3, Try.ntmps3
  go_wp2_with fail
  refine (ow_new k0 w w (Kp.refl w)).mono ?_
  rintro e w1 ⟨x, T0, rfl, o0, k1, t0⟩
  go_wp2_with fail
  refine (rnew_any k0 w1).mono ?_
  rintro e w2 ⟨r, gs, cap, rfl, R2, k2, hr_, hg_⟩
  rw [← HN.out] at o0 R2
  have PR2 : Hid (Pr w w2 (T0 ++ rblk r gs (.slice none 0 0)) x r N N) := by
    refine ⟨T0, gs, cap, _, rfl, o0.kp k2, R2, fun t ht ht2 => ?_, fun t ht => ?_⟩
    · have := o0.low t ht
      simp [rblk, Value.ownBlock] at ht2
      rcases ht2 with rfl | rfl <;> omega
    · have := k1.size
      simp [rblk, Value.ownBlock] at ht
      rcases ht with rfl | rfl <;> omega
  have HK2 := hid (k1.trans k2)
  clear o0 k1 k2 R2 hr_ hg_ t0
  go_wp2_with fail
  refine (wakes_any w2).mono ?_
  rintro e w3 ⟨rfl, k3⟩
  have PR3 := hid (PR2.out.kp k3)
  have HK3 := hid (HK2.out.trans k3)
  clear k3 PR2 HK2
  go_wp2_with fail
  refine (same_any HK3.out PR3.out (by rw [HR0.out]; omega)).mono ?_
  rintro e w4 ⟨rfl, px4⟩
  have HK4 := hid (px4.below HK3.out PR3.out.new)
  obtain ⟨T4, pr4, _, _⟩ := px4
  have PR4 := hid pr4
  clear pr4 PR3 HK3
  go_wp2_with fail
  go_loopw [30] (fun i wr => ∃ (k : Nat) (T1 : List Nat) (S : MS), k ≤ m1 ∧ i = .int .i64 k ∧ Hid (Pr w wr T1 x r S S ∧ Right S ∧ S.row.length ≤ k ∧ Kp w wr)) (fun i _ => m1 - (intOf i).toNat)
  case atStart => exact ⟨0, T4, N, by omega, by go_num, PR4.out, HRN.out, by rw [HR0.out]; omega, HK4.out⟩
  case round =>
    clear PR4 HK4
    obtain ⟨k, T1, S, hk, rfl, HX⟩ := hrel
    by_cases hlt : k < m1
    · have hkn : k < n1 := by omega
      have hks : k < l1.length := by rw [← N1.out]; exact hkn
      have KR := HX.out.2.2.2
      obtain ⟨qa, qc, eq, z1_, z2_, hq⟩ := (I1.out.kp KR).take m1 (by rw [← N1.out]; exact hm1)
      obtain ⟨g, off, hqq, hrg⟩ := hq (by omega)
      simp only [Value.slice.injEq] at eq
      obtain rfl : q1 = some ⟨g, off, none⟩ := eq.1.trans hqq
      obtain ⟨f0, f1, f2, f3, f4⟩ := acs_cells (hrg k hlt)
      have fok := I1.out.ok k hks
      have fcp := I2.out k hks
      obtain ⟨a_, ha_⟩ : ∃ a_, a_ = l1.getD k noA := ⟨_, rfl⟩
      rw [← ha_] at f0 f1 f2 f3 f4 fok fcp
      obtain ⟨op_, k_, d_, o_, kv_, ks_⟩ := a_
      simp only at f0 f1 f2 f3 f4 fcp
      have hd8 : d_ < 256 := fok.d
      have hke : KeIn w kv_ ks_ := fok.k
      obtain ⟨va, vc, hva, z3_, z4_, _⟩ := hke.h
      subst hva
      have hvc := fcp _ _ _ rfl
      obtain ⟨vn, hvn⟩ : ∃ vn, vn = ks_.length := ⟨_, rfl⟩
      rw [← hvn] at f4 hke hvc
      obtain ⟨mn, e2⟩ : ∃ m : Nat, min (vn : Int) 4 = (m : Int) := ⟨min vn 4, by omega⟩
      have hmn : mn ≤ vn := by omega
      have hmc : mn ≤ vc := by omega
      have HKT := hid (hke.take mn hmn)
      clear ha_ eq hqq hrg fok z1_ z2_ hq z3_ fcp hke hvn
      go_wp2_with fail
      obtain ⟨W1, hW1⟩ : ∃ W1, W1 = wr.alloc (.cells #[.int .i64 op_, .int .i64 k_, .int .u8 (d_ : Int), .bool o_, .slice va mn vc] 31) := ⟨_, rfl⟩
      have kW : Kp wr W1 := by rw [hW1]; exact (Kp.refl wr).alloc _
      rw [← hW1]
      clear hW1 f0 f1 f2 f3 f4
      refine (act_any (KR.trans kW) (HX.out.1.kp kW) HX.out.2.1 (by have := HX.out.2.2.1; omega) op_ k_ d_ o_ va mn vc (ks_.take mn) hd8 HKT.out).mono ?_
      rintro e w5 ⟨rfl, S5, r5, l5, px5⟩
      have K5 := px5.below (KR.trans kW) HX.out.1.new
      obtain ⟨T5, pr5, _, _⟩ := px5
      have L5 : S5.row.length ≤ k + 1 := by have := HX.out.2.2.1; omega
      have HP5 := hid (And.intro pr5 (And.intro r5 (And.intro L5 K5)))
      clear pr5 r5 l5 L5 K5 kW HX KR HKT
      go_wp2_with fail
      refine (same_any HP5.out.2.2.2 HP5.out.1 (by have := HP5.out.2.2.1; omega)).mono ?_
      rintro e w6 ⟨rfl, px6⟩
      have K6 := px6.below HP5.out.2.2.2 HP5.out.1.new
      obtain ⟨T6, pr6, _, _⟩ := px6
      have HP6 := hid (And.intro pr6 (And.intro HP5.out.2.1 (And.intro HP5.out.2.2.1 K6)))
      clear pr6 K6 HP5
      go_wp2
      go_roundw
      case rel => exact ⟨k + 1, T6, S5, by omega, by go_num, HP6⟩
      case measure => simp [intOf]; omega
    · obtain rfl : k = m1 := by omega
      have hkn : ¬ (k : Int) < (k : Int) := by omega
      obtain ⟨PR, RS, LS, KS⟩ := HX.out
      have CR : Hid (∀ V T A, Pr w V T x r A S → ∃ gs cap, V.cell? ⟨r, 0, none⟩ = some (.slice (some ⟨gs, 0, none⟩) S.las.length cap) ∧ (S.las.length ≤ cap ∧ S.las.length ≤ 256) ∧ V.cell? ⟨r, 2, none⟩ = some (.bool S.dead)) := fun V T A hh => by
        obtain ⟨P, gs, cap, wv, _, _, R, _⟩ := hh
        exact ⟨gs, cap, R.c0, ⟨R.k1, R.fine.n2⟩, R.c2⟩
      obtain ⟨gs', cap', c0, ⟨kc, k256⟩, _⟩ := CR.out _ _ _ PR
      obtain ⟨M, hM⟩ : ∃ M, M = S.las.length := ⟨_, rfl⟩
      rw [← hM] at c0 kc k256
      have HM := hid hM
      have HRS := hid RS
      have HP7 := hid (And.intro PR (And.intro (Alk.refl S) KS))
      clear hM PR RS LS KS HX
      go_wp2_with fail
      clear c0
      go_loopw [59] (fun i wr => ∃ (j : Nat) (T1 : List Nat) (A : MS), j ≤ M ∧ i = .int .i64 j ∧ Hid (Pr w wr T1 x r A S ∧ Alk A S ∧ Kp w wr)) (fun i _ => M - (intOf i).toNat)
      case atStart => exact ⟨0, _, _, by omega, by go_num, HP7⟩
      case round =>
        clear HP7
        obtain ⟨j, T1, A, hj, rfl, HX⟩ := hrel
        by_cases hlt2 : j < M
        · have hjm : (j : Int) < (M : Int) := by omega
          have hjl : j < S.las.length := by rw [← HM.out]; exact hlt2
          obtain ⟨PA, AL, KA⟩ := HX.out
          obtain ⟨sA, hsA⟩ : ∃ sA, sA = rdS A (j : Int) := ⟨_, rfl⟩
          obtain ⟨eA, heA⟩ : ∃ eA, eA = rcE A (j : Int) := ⟨_, rfl⟩
          have HsA := hid hsA
          have HeA := hid heA
          clear hsA heA
          go_wp2_with fail
          refine (Px.mem KA PA.new (Px.refl PA) (fun P o K => ow_read o K (j : Int))).mono ?_
          rintro e w8 ⟨rfl, px8⟩
          rw [← HsA.out, ← HeA.out]
          have K8 := px8.below KA PA.new
          obtain ⟨T8, pr8, _, _⟩ := px8
          have HX8 := hid (And.intro pr8 (And.intro (AL.rd (j : Int)) K8))
          obtain ⟨gs8, cap8, _, _, c2⟩ := CR.out _ _ _ pr8
          obtain ⟨P8, gs9, cap9, wv9, _, _, R8, _⟩ := pr8
          have hnow := now_any R8 j hjl
          clear R8
          cases hd : S.dead with
          | true =>
            rw [hd] at c2
            clear hnow HsA HeA HX PA AL KA K8
            go_wp2
            go_roundw
            case rel => exact ⟨j + 1, T8, _, by omega, by go_num, HX8⟩
            case measure => simp [intOf]; omega
          | false =>
            rw [hd] at c2
            have e0 : eA = 0 := by rw [HeA.out]; exact rc_in (by rw [AL.dead]; exact hd) (by rw [AL.las]; exact hjl)
            have s0 : sA = (pl S.las S.row).getD j noS := by
              rw [HsA.out, rd_in (by rw [AL.dead]; exact hd) (by rw [AL.las]; exact hjl), AL.now, HRS.out.live hd]
            rw [← s0] at hnow
            subst e0
            clear s0 HsA HeA HX PA AL KA K8
            go_wp2_with fail
            refine hnow.mono ?_
            rintro e w9 ⟨rfl, rfl⟩
            clear hnow
            go_wp2
            go_roundw
            case rel => exact ⟨j + 1, T8, _, by omega, by go_num, HX8⟩
            case measure => simp [intOf]; omega
        · obtain rfl : j = M := by omega
          have hjm : ¬ (j : Int) < (j : Int) := by omega
          have KF := HX.out.2.2
          clear HX
          go_wp2
          go_ret
          exact ⟨rfl, KF⟩
theorem walk (w : World) (a0 : Int) (a1 : Value) (l1 : List AC) (w0 : (Lit.int .i64 a0).wf = true) (w1 : ActsIn w a1 l1) (x1 : ∀ i, i < l1.length → ∀ a n c, (l1.getD i noA).kv = .slice a n c → n ≤ c) :
    Calls Try.prog 3 #[.int .i64 a0, a1] w fun e w' => e = .returned (.bool true) ∧ Kp w w' := by
  exact walkN w a0 a1 l1 w1 x1

set_option maxRecDepth 100000 in
theorem lifted (os : Os) (started : os.Started) (H : Type) (enc : TypeId × Value → H) :
    ReturnsInHanded {} Try.checked os 3 .any (Rows.memberPlaysSpec.pre6 enc Try.prog Try.f3 Rows.memberPlaysRow.domain false) (Rows.memberPlaysSpec.post enc Try.prog Try.f3 false true false false) := by
  refine returnsInHanded_of_change (C := Try.checked) own started (by kernel_rfl) Try.func3
    (ChangeSpec.witness6 (enc := enc) (C := Try.checked) false ⟨#[], #[.int .i64 0, .slice none 0 0], []⟩ 8 (by kernel_rfl) (by kernel_rfl) (by kernel_rfl) (by kernel_rfl)) ?_
  intro W base args ds gs before hval0 hW hcnd _
  have hval : ∀ (j : Nat) t v, Try.f3.params[j]? = some t → args[j]? = some v → Value.okWide Try.prog W .any base t v := hval0
  have hW' := hW
  have hlt := hW.lt
  obtain ⟨p, q, hA0, hV, rfl, hfz, hnd⟩ := hW
  have hA : DataW.TrodAll enc Try.prog W 0 (fun _ => true) true Try.f3.params.toList args.toList ds p := hA0
  have hAk := hA
  rw [Try.params3] at hA hval
  obtain ⟨v0, vs0, d0, ds0, p0, q0, hargs, rfl, rfl, h0, r0⟩ := trodAll_cons hA
  obtain ⟨v1, vs1, d1, ds1, p1, q1, rfl, rfl, rfl, h1, r1⟩ := trodAll_cons r0
  obtain ⟨rfl, rfl, rfl⟩ := trodAll_nil r1
  obtain rfl : args = #[v0, v1] := by cases args; simp_all
  obtain ⟨rfl, rfl⟩ := trodVars_none hV
  obtain ⟨a0, rfl, rfl, rfl, w0⟩ := open_int Try.underlying3 (hval 0 3 v0 rfl rfl) h0
  obtain ⟨l1, w1, x1⟩ := open_acts2 (hval 1 22 v1 rfl rfl) h1
  clear hA0 hval0
  simp only [List.append_nil] at hW' hAk hlt
  refine (walk W a0 v1 l1 w0 w1 x1).mono fun e W' ⟨he, hg⟩ => ?_
  subst he
  exact ⟨_, rfl, post_kp (pv := []) hW' (fun _ _ _ => (trodAll_cons_mk (shut_bool Try.underlying4 _) trodAll_mk0)) (fun sp hsp => trodAll_stays laidOut (by rw [Try.params3]; exact of_decide_eq_true (by kernel_rfl)) hAk (fun x hx => Below.same hg (hlt x hx)) hsp) (fun _ _ => rfl) (by simp) hg⟩

theorem over : Rows.memberPlaysRow.holds Try.pinned (OpenSpec.ofChange Rows.memberPlaysSpec) :=
  OpenClaim.holds_of_wide 3 Try.f3 rfl rfl rfl rfl rfl rfl rfl ⟨rfl, rfl, rfl, rfl, rfl⟩ rfl rfl rfl rfl rfl (by kernel_rfl) Try.func3 (by kernel_rfl)
    (of_decide_eq_true (by kernel_rfl)) (by unfold Func.isWrapper; first | (rw [if_pos (by decide +kernel)]; kernel_rfl) | (rw [if_neg (by decide +kernel)]; exact ⟨rfl, rfl⟩))
    (fun os started H enc _ => lifted os started H enc)

end Go.Proofs.Ytohakbhjkhhcaaa.memberPlays
namespace Go.Proofs.Ytohakbhjkhhcaaa
theorem memberPlays_holds : Rows.MemberPlaysSaid := memberPlays.over
end Go.Proofs.Ytohakbhjkhhcaaa
