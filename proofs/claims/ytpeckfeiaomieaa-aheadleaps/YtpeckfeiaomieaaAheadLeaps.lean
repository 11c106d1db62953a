/-
  AheadLeaps: for every input the law answers true, and its arguments read as before. No condition.
-/
import Derived.Test.YtpeckfeiaomieaaRows
import Derived.Test.YtpeckfeiaomieaaBufArgs
import Derived.Test.YtpeckfeiaomieaaAhRun
import Derived.Test.YtpeckfeiaomieaaAhArgs
import Derived.WalkKit
import Derived.ProofKit
import Derived.OpenShut
import Derived.ShutString
import Derived.Deep.QuietTactic
import Derived.BigQuiet
import Derived.Deep.RegionWith
import Derived.Deep.RegionHeld3
import Derived.Deep.DeepCutAuto
import Derived.Deep.CutBlock
namespace Go.Proofs.Ytpeckfeiaomieaa.aheadLeaps
open Go.ChangeShapes Go.WideShapes Go.ChangeAt Go.RowKit
open Go.ChangeMaps (open_string shut_string)
open Go.Proofs.Ytpeckfeiaomieaa Plain
set_option linter.unusedVariables false

theorem own : ownKnob Try.prog.godebug = none := by kernel_rfl
theorem laidOut : laidOutB Try.prog = true := by kernel_rfl
theorem cellsI : Try.prog.cellsOf 3 = 1 := by kernel_rfl
theorem cellsK : Try.prog.cellsOf 22 = 3 := by kernel_rfl
set_option maxRecDepth 100000 in
set_option maxHeartbeats 8000000 in
theorem walk (w : World) (a0 b0 c0 : Int) (a1 : Value) (l1 : List Int) (w0 : (Lit.int .i64 a0).wf = true) (x0 : (Lit.int .i64 b0).wf = true) (y0 : (Lit.int .i64 c0).wf = true) (w1 : IlIn w a1 l1) :
    Calls Try.prog 6 #[.agg #[.int .i64 a0, .int .i64 b0, .int .i64 c0], a1] w fun e w' => e = .returned (.bool true) ∧ Kp w w' := by
  clear w0 x0 y0
  have hmax := @imax Try.prog
  obtain ⟨B, hB0⟩ : ∃ x, x = 1 + max 0 a0 % 300 := ⟨_, rfl⟩
  obtain ⟨R, hR0⟩ : ∃ x, x = 1 + max 0 b0 % 32 := ⟨_, rfl⟩
  obtain ⟨M, hM0⟩ : ∃ x, x = 1 + max 0 c0 % 64 := ⟨_, rfl⟩
  have p1 : 1 ≤ B := by omega
  have p2 : B ≤ 300 := by omega
  have p3 : 1 ≤ R := by omega
  have p4 : R ≤ 32 := by omega
  have p5 : 1 ≤ M := by omega
  have p6 : M ≤ 64 := by omega
  have hok : newOk B R M := by unfold newOk; omega
  obtain ⟨pa, pg, po, pc, rfl, hA⟩ := w1
  obtain ⟨ln, hln⟩ : ∃ ln, ln = l1.length := ⟨_, rfl⟩
  have hp1 := hA.le
  have hp2 := hA.mx
  unfold maxLen at hp2
  rw [← hln] at hp1 ⊢
  have hpa : 0 < ln → pa = some ⟨pg, po, none⟩ := by rw [hln]; exact hA.ha
  have HPC : Hid (∀ V, Kp w V → ∀ i, i < ln → V.cell? ⟨pg, po + i, none⟩ = some (.int .i64 (l1.getD i 0))) := fun V k i hi => k.held (hA.c i (by omega))
  clear hA hln
  obtain ⟨kk, ekk⟩ : ∃ k, k = min ln 80 := ⟨_, rfl⟩
  have hmin : ∀ ts t W, (Builtin.min_ ts t #[.int .i64 (ln : Int), .int .i64 80]).run Try.prog W = .ok (.int .i64 (kk : Int)) W := fun ts t W => by
    rw [imin ts t _ _ W]
    congr 2
    omega
  have hk1 : kk ≤ ln := by omega
  have hk80 : kk ≤ 80 := by omega
  clear ekk
  have hBz : (B == 0) = false := by simp; omega
  obtain ⟨W, hW⟩ : ∃ W, W = w.alloc (.cells #[.int .i64 a0, .int .i64 b0, .int .i64 c0] 22) := ⟨_, rfl⟩
  obtain ⟨H, hH⟩ : ∃ H, H = w.heap.size := ⟨_, rfl⟩
  have hB : W.heap[H]? = some (.cells #[.int .i64 a0, .int .i64 b0, .int .i64 c0] 22 (0, 0)) := by rw [hW, hH]; exact new_obj _ _ _
  have e0 := cell_of hB 0
  have e1 := cell_of hB 1
  have e2 := cell_of hB 2
  have HW : Hid (W = w.alloc (.cells #[.int .i64 a0, .int .i64 b0, .int .i64 c0] 22) ∧ H = w.heap.size) := ⟨hW, hH⟩
  have HK : Hid (Kp w W) := by rw [hW]; exact (Kp.refl w).alloc _
  have HS : Hid (B = 1 + max 0 a0 % 300 ∧ R = 1 + max 0 b0 % 32 ∧ M = 1 + max 0 c0 % 64) := ⟨hB0, hR0, hM0⟩
  have HO := hid hok
  clear hW hH hB hB0 hR0 hM0 hok
  go_enter Try.func6, Try.ntmps6
  go_upto_region 1 with fail
  rw [← HW.out.1, ← HW.out.2]
  clear HW
  go_upto_region 2 with fail
  rw [← HS.out.1]
  have hR1 : IntKind.i64.wrap (1 + max 0 b0 % 32) = R := by rw [← HS.out.2.1, IntKind.wrap_i64]; omega
  have hM1 : IntKind.i64.wrap (1 + max 0 c0 % 64) = M := by rw [← HS.out.2.2, IntKind.wrap_i64]; omega
  have hN := Pu.new B R M HO.out W
  go_wp2_with fail
  refine hN.mono ?_; rintro e w2 ⟨a, rfl, u2⟩
  have HU2 := hid u2
  clear hN u2 e0 e1 e2 hR1 hM1 HS HO
  go_wp2_with fail
  refine (wakes_any _).mono ?_; rintro e w3 ⟨rfl, k3⟩
  have HU3 := hid ((HU2.out.kp k3).1)
  clear k3 HU2
  go_wp2_with fail
  refine (nreset _).mono ?_; rintro e w4 ⟨rfl, k4⟩
  have H0 : Hid (Pu W w4 a (newS B R M) []) := (HU3.out.kp k4).1
  clear k4 HU3
  go_upto_region 8 with fail
  go_cut [49, 50, 51] (fun p qq i wx => ∃ a', p = .slice a' kk pc ∧ qq = .int .i64 (kk : Int) ∧ i = .int .i64 ((0 : Nat) : Int) ∧ (0 < kk → a' = some ⟨pg, po, none⟩) ∧ w4 = wx)
  case first =>
    by_cases h0 : 0 < ln
    · obtain rfl := hpa h0
      go_wp2_with fail
      go_meet
      exact ⟨_, rfl, rfl, rfl, fun _ => rfl, rfl⟩
    · have hn0 : ln = 0 := by omega
      subst hn0
      obtain rfl : kk = 0 := by omega
      cases pa with
      | none =>
        go_wp2_with fail
        go_meet
        exact ⟨_, rfl, rfl, rfl, fun h => absurd h (by omega), rfl⟩
      | some ad =>
        go_wp2_with fail
        go_meet
        exact ⟨_, rfl, rfl, rfl, fun h => absurd h (by omega), rfl⟩
  case rest =>
  obtain ⟨a', rfl, rfl, rfl, ha', rfl⟩ := hcut
  clear hmin hpa
  go_wp2_with fail
  go_loopw [9, 11, 12, 13, 14, 15, 16, 51] (fun l _ _ _ _ _ _ i wr => ∃ (k : Nat) (la : Int) (S : AS), k ≤ kk ∧ i = .int .i64 k ∧ l = .int .i64 la ∧ -1 ≤ la ∧ la < B ∧ Hid (Pu W wr a S [] ∧ S.B = B ∧ (S.r = 0 ∨ S.n = la + 1))) (fun _ _ _ _ _ _ _ i _ => kk - (intOf i).toNat)
  case atStart => exact ⟨0, -1, newS B R M, by omega, by go_num, rfl, by omega, by omega, H0.out, rfl, .inl rfl⟩
  case round =>
    clear H0
    obtain ⟨k, la, S, hk, rfl, rfl, hl1, hl2, HQ⟩ := hrel
    by_cases hlt : k < kk
    · obtain rfl := ha' (by omega)
      have c0 := HPC.out wr (HK.out.trans HQ.out.1.k) k (by omega)
      obtain ⟨z, hz⟩ : ∃ z, z = l1.getD k 0 := ⟨_, rfl⟩
      rw [← hz] at c0
      obtain ⟨b, hb0⟩ : ∃ b, b = max 0 z % B := ⟨_, rfl⟩
      have hb1 : 0 ≤ b := by rw [hb0]; exact Int.emod_nonneg _ (by omega)
      have hb2 : b < B := by rw [hb0]; exact Int.emod_lt_of_pos _ (by omega)
      have htm : (max 0 z).tmod B = b := by rw [hb0]; exact Int.tmod_eq_emod_of_nonneg (by omega)
      clear hz hb0
      by_cases hbl : b = la + 1
      · have hbl2 : (b == la + 1) = true := by simp [hbl]
        clear hbl
        go_wp2
        go_roundw
        case rel => first | exact ⟨k + 1, la, S, by omega, by go_num, rfl, hl1, hl2, HQ.out⟩ | (repeat apply Exists.intro) <;> exact ⟨⟨k + 1, la, S, by omega, by go_num, rfl, hl1, hl2, HQ.out⟩, rfl⟩
        case measure => simp [intOf]; omega
      · have hbl2 : (b == la + 1) = false := by simp [hbl]
        have hnew : S.r = 0 ∨ b ≠ S.n := by
          rcases HQ.out.2.2 with h | h
          · exact .inl h
          · exact .inr (by omega)
        have ha := ask_new hnew
        have hw : wayS S b = 1 := way1.2 ⟨⟨hb1, by rw [HQ.out.2.1]; exact hb2⟩, .inl (by rw [ha]; simp only; omega)⟩
        have e3 : ntS S b = ⟨b + 1, 1, 0, b + 1, S.B, S.R, S.M⟩ := by rw [(nt_at _ hw).1]; exact ha
        have hN := HQ.out.1.note b
        rw [(nt_zero (by omega)).1, (nt_zero (by omega)).2, (nt_at _ hw).2, e3] at hN
        have HSB := hid HQ.out.2.1
        clear hbl hnew ha hw e3 HQ
        go_wp2_with fail
        refine hN.mono ?_; rintro e w5 ⟨rfl, u5, _⟩
        obtain ⟨V, hV⟩ : ∃ U, U = w5.alloc (.cells #[.int .i64 0, .int .i64 0] 34) := ⟨_, rfl⟩
        have u6 := (u5.kp (w' := V) (by rw [hV]; exact (Kp.refl w5).alloc _)).1
        have HU := hid u6
        have HV := hid hV
        clear hN u5 u6 hV
        go_upto_region 14 with fail
        rw [← HV.out]
        clear HV
        go_wp2_with fail
        refine (nnote b _).mono ?_; rintro e w6 ⟨rfl, k6⟩
        obtain ⟨V2, hV⟩ : ∃ U, U = w6.alloc (.cells #[.int .i64 0, .int .i64 0] 34) := ⟨_, rfl⟩
        have u7 := (HU.out.kp (w' := V2) (k6.trans (by rw [hV]; exact (Kp.refl w6).alloc _))).1
        have hRn := u7.run
        have HV := hid hV
        clear k6 HU u7 hV
        go_upto_region 15 with fail
        rw [← HV.out]
        clear HV
        go_wp2_with fail
        refine hRn.mono ?_; rintro e w8 ⟨rfl, u8, _⟩
        have hWn := u8.win
        clear hRn u8
        go_wp2_with fail
        refine hWn.mono ?_; rintro e w9 ⟨rfl, u9, _⟩
        have HU := hid u9
        clear hWn u9
        go_wp2_with fail
        refine (nrun _).mono ?_; rintro e v1 ⟨rfl, k1⟩
        go_wp2_with fail
        refine (nwindow _).mono ?_; rintro e v2 ⟨rfl, k2⟩
        have HF : Hid (Pu W v2 a ⟨b + 1, 1, 0, b + 1, S.B, S.R, S.M⟩ [] ∧ S.B = B ∧ ((1 : Int) = 0 ∨ b + 1 = b + 1)) := ⟨(HU.out.kp (k1.trans k2)).1, HSB.out, .inr rfl⟩
        clear k1 k2 HU HSB
        go_wp2
        go_roundw
        case rel => exact ⟨k + 1, b, _, by omega, by go_num, rfl, by omega, hb2, HF.out.1, HF.out.2.1, .inr rfl⟩
        case measure => simp [intOf]; omega
    · have HE : Hid (Kp w wr) := HK.out.trans HQ.out.1.k
      clear HQ
      go_wp2
      go_ret
      exact ⟨rfl, HE.out⟩

set_option maxRecDepth 100000 in
theorem lifted (os : Os) (started : os.Started) (H : Type) (enc : TypeId × Value → H) :
    ReturnsInHanded {} Try.checked os 6 .any (Rows.aheadLeapsSpec.pre6 enc Try.prog Try.f6 Rows.aheadLeapsRow.domain false) (Rows.aheadLeapsSpec.post enc Try.prog Try.f6 false true false false) := by
  refine returnsInHanded_of_change (C := Try.checked) own started (by kernel_rfl) Try.func6
    (ChangeSpec.witness6 (enc := enc) (C := Try.checked) false ⟨#[], #[.agg #[.int .i64 0, .int .i64 0, .int .i64 0], .slice none 0 0], []⟩ 8 (by kernel_rfl) (by kernel_rfl) (by kernel_rfl) (by kernel_rfl)) ?_
  intro W base args ds gs before hval0 hW hcnd _
  have hval : ∀ (j : Nat) t v, Try.f6.params[j]? = some t → args[j]? = some v → Value.okWide Try.prog W .any base t v := hval0
  have hW' := hW
  have hlt := hW.lt
  obtain ⟨p, q, hA0, hV, rfl, hfz, hnd⟩ := hW
  have hA : DataW.TrodAll enc Try.prog W 0 (fun _ => true) true Try.f6.params.toList args.toList ds p := hA0
  have hAk := hA
  rw [Try.params6] at hA hval
  obtain ⟨v0, vs0, d0, ds0, p0, q0, hargs, rfl, rfl, h0, r0⟩ := trodAll_cons hA
  obtain ⟨v1, vs1, d1, ds1, p1, q1, rfl, rfl, rfl, h1, r1⟩ := trodAll_cons r0
  obtain ⟨rfl, rfl, rfl⟩ := trodAll_nil r1
  obtain rfl : args = #[v0, v1] := by cases args; simp_all
  obtain ⟨rfl, rfl⟩ := trodVars_none hV
  obtain ⟨a0, b0, c0, rfl, w0, x0, y0⟩ := open_ints3 Try.underlying22 Try.underlying3 cellsI cellsK (hval 0 22 v0 rfl rfl) h0
  obtain ⟨l1, w1⟩ := open_ints22 (hval 1 23 v1 rfl rfl) h1
  clear hA0 hval0
  simp only [List.append_nil] at hW' hAk hlt
  refine (walk W a0 b0 c0 v1 l1 w0 x0 y0 w1).mono fun e W' ⟨he, hg⟩ => ?_
  subst he
  exact ⟨_, rfl, post_kp (pv := []) hW' (fun _ _ _ => (trodAll_cons_mk (shut_bool Try.underlying4 _) trodAll_mk0)) (fun sp hsp => trodAll_stays laidOut (by rw [Try.params6]; exact of_decide_eq_true (by kernel_rfl)) hAk (fun x hx => Below.same hg (hlt x hx)) hsp) (fun _ _ => rfl) (by simp) hg⟩

theorem over : Rows.aheadLeapsRow.holds Try.pinned (OpenSpec.ofChange Rows.aheadLeapsSpec) :=
  OpenClaim.holds_of_wide 6 Try.f6 rfl rfl rfl rfl rfl rfl rfl ⟨rfl, rfl, rfl, rfl, rfl⟩ rfl rfl rfl rfl rfl (by kernel_rfl) Try.func6 (by kernel_rfl)
    (of_decide_eq_true (by kernel_rfl)) (by unfold Func.isWrapper; first | (rw [if_pos (by decide +kernel)]; kernel_rfl) | (rw [if_neg (by decide +kernel)]; exact ⟨rfl, rfl⟩))
    (fun os started H enc _ => lifted os started H enc)

end Go.Proofs.Ytpeckfeiaomieaa.aheadLeaps
namespace Go.Proofs.Ytpeckfeiaomieaa
theorem aheadLeaps_holds : Rows.AheadLeapsSaid := aheadLeaps.over
end Go.Proofs.Ytpeckfeiaomieaa
