/-
  AheadServes: for every input the law answers true, and its arguments read as before. No condition.
-/
import Derived.Test.YtpeckfeiaomieaaRows
import Derived.Test.YtpeckfeiaomieaaBufArgs
import Derived.Test.YtpeckfeiaomieaaAhRun
import Derived.Test.YtpeckfeiaomieaaAhArgs
import Derived.WalkKit
import Derived.ProofKit
import Derived.OpenShut
import Derived.ShutString
import Derived.Deep.QuietTactic
import Derived.BigQuiet
import Derived.Deep.RegionWith
import Derived.Deep.RegionHeld3
import Derived.Deep.DeepCutAuto
import Derived.Deep.CutBlock
namespace Go.Proofs.Ytpeckfeiaomieaa.aheadServes
open Go.ChangeShapes Go.WideShapes Go.ChangeAt Go.RowKit
open Go.ChangeMaps (open_string shut_string)
open Go.Proofs.Ytpeckfeiaomieaa Plain
set_option linter.unusedVariables false

theorem own : ownKnob Try.prog.godebug = none := by kernel_rfl
theorem laidOut : laidOutB Try.prog = true := by kernel_rfl
theorem cellsI : Try.prog.cellsOf 3 = 1 := by kernel_rfl
theorem cellsK : Try.prog.cellsOf 22 = 3 := by kernel_rfl
set_option maxRecDepth 100000 in
set_option maxHeartbeats 8000000 in
theorem walk (w : World) (a0 b0 c0 : Int) (a1 : Int) (w0 : (Lit.int .i64 a0).wf = true) (x0 : (Lit.int .i64 b0).wf = true) (y0 : (Lit.int .i64 c0).wf = true) (w1 : (Lit.int .i64 a1).wf = true) :
    Calls Try.prog 5 #[.agg #[.int .i64 a0, .int .i64 b0, .int .i64 c0], .int .i64 a1] w fun e w' => e = .returned (.bool true) ∧ Kp w w' := by
  clear w0 x0 y0
  have hmax := @imax Try.prog
  obtain ⟨B, hB0⟩ : ∃ x, x = 1 + max 0 a0 % 300 := ⟨_, rfl⟩
  obtain ⟨R, hR0⟩ : ∃ x, x = 1 + max 0 b0 % 32 := ⟨_, rfl⟩
  obtain ⟨M, hM0⟩ : ∃ x, x = 1 + max 0 c0 % 64 := ⟨_, rfl⟩
  have p1 : 1 ≤ B := by omega
  have p2 : B ≤ 300 := by omega
  have p3 : 1 ≤ R := by omega
  have p4 : R ≤ 32 := by omega
  have p5 : 1 ≤ M := by omega
  have p6 : M ≤ 64 := by omega
  have hok : newOk B R M := by unfold newOk; omega
  obtain ⟨f, hf0⟩ : ∃ f, f = max 0 a1 % B := ⟨_, rfl⟩
  have p7 : 0 ≤ f := by rw [hf0]; exact Int.emod_nonneg _ (by omega)
  have p8 : f < B := by rw [hf0]; exact Int.emod_lt_of_pos _ (by omega)
  have htm : (max 0 a1).tmod B = f := by rw [hf0]; exact Int.tmod_eq_emod_of_nonneg (by omega)
  have hBz : (B == 0) = false := by simp; omega
  clear hf0
  obtain ⟨W, hW⟩ : ∃ W, W = w.alloc (.cells #[.int .i64 a0, .int .i64 b0, .int .i64 c0] 22) := ⟨_, rfl⟩
  obtain ⟨H, hH⟩ : ∃ H, H = w.heap.size := ⟨_, rfl⟩
  have hB : W.heap[H]? = some (.cells #[.int .i64 a0, .int .i64 b0, .int .i64 c0] 22 (0, 0)) := by rw [hW, hH]; exact new_obj _ _ _
  have e0 := cell_of hB 0
  have e1 := cell_of hB 1
  have e2 := cell_of hB 2
  have HW : Hid (W = w.alloc (.cells #[.int .i64 a0, .int .i64 b0, .int .i64 c0] 22) ∧ H = w.heap.size) := ⟨hW, hH⟩
  have HK : Hid (Kp w W) := by rw [hW]; exact (Kp.refl w).alloc _
  have HS : Hid (B = 1 + max 0 a0 % 300 ∧ R = 1 + max 0 b0 % 32 ∧ M = 1 + max 0 c0 % 64) := ⟨hB0, hR0, hM0⟩
  have HO := hid hok
  clear hW hH hB hB0 hR0 hM0 hok
  have hmm : ∀ (t : TypeId) (W : World), (Instr.makeMap t none).run Try.prog W = .ok (.map (some W.heap.size)) (W.alloc (.map #[] 0)) := fun _ _ => rfl
  go_enter Try.func5, Try.ntmps5
  go_upto_region 1 with fail
  rw [← HW.out.1, ← HW.out.2]
  clear HW
  go_region
  go_upto_region 2 with fail
  rw [← HS.out.1, ← HS.out.2.1, ← HS.out.2.2]
  clear HS e0 e1 e2
  obtain ⟨W1, hW1⟩ : ∃ x, x = W.drew := ⟨_, rfl⟩
  have HK1 : Hid (Kp w W1) := by rw [hW1]; exact HK.out.drew
  have hN := Pu.new B R M HO.out W1
  rw [← hW1]
  clear hW1 HK HO
  go_wp2_with fail
  refine hN.mono ?_; rintro e w2 ⟨a, rfl, u2⟩
  have HU2 := hid u2
  clear hN u2
  go_wp2_with fail
  refine (wakes_any _).mono ?_; rintro e w3 ⟨rfl, k3⟩
  have u3 := (HU2.out.kp k3).1
  have HU3 := hid u3
  clear k3 HU2 u3
  go_upto_region 6 with fail
  obtain ⟨U, hU⟩ : ∃ U, U = w3.alloc (.map #[] 0) := ⟨_, rfl⟩
  obtain ⟨Q, hQ⟩ : ∃ M, M = w3.heap.size := ⟨_, rfl⟩
  have hM0 : MpB U Q 0 0 (fun _ => false) (.map []) := by rw [hU, hQ]; exact MpB.made w3
  have H0 : Hid (Pu W1 U a (newS B R M) [Q] ∧ MpB U Q 0 0 (fun _ => false) (.map []) ∧ W1.heap.size ≤ Q) := ⟨HU3.out.more (by rw [hU]; exact (Kp.refl w3).alloc _) (by omega) hM0.lt, hM0, by rw [hQ]; exact HU3.out.k.size⟩
  have HU : Hid (U = w3.alloc (.map #[] 0) ∧ Q = w3.heap.size) := ⟨hU, hQ⟩
  clear hU hQ hM0 HU3
  go_upto_region 7 with fail
  rw [← HU.out.1, ← HU.out.2]
  clear HU hmm htm hBz
  go_wp2_with fail
  go_loopw [11, 12, 13, 14] (fun i _ _ _ wr => ∃ (b : Int) (n c : Nat) (S : AS) (T : Int → Bool) (D : DataW Unit), i = .int .i64 b ∧ f ≤ b ∧ b ≤ B ∧ Hid (Pu W1 wr a S [Q] ∧ MpB wr Q n c T D ∧ Rn f S b ∧ S.B = B ∧ (b = f → n = 0) ∧ (f < b → (n : Int) ≤ S.e) ∧ (f < b → ∀ x, f + 2 ≤ x → x < S.e → T x = true))) (fun i _ _ _ _ => (B - intOf i).toNat)
  case atStart => exact ⟨f, 0, 0, newS B R M, fun _ => false, .map [], rfl, by omega, by omega, H0.out.1, H0.out.2.1, Rn.new f B R M, rfl, fun _ => rfl, fun h => by omega, fun h => by omega⟩
  case round =>
    have HQ0 := hid H0.out.2.2
    clear H0
    obtain ⟨b, n, c, S, T, D, rfl, hb1, hb2, HQ⟩ := hrel
    by_cases hlt : b < B
    · have hSB := HQ.out.2.2.2.1
      have HR : Hid (Rs f S b) := HQ.out.2.2.1.note HQ.out.1.ak p7 (by rw [hSB]; exact hlt)
      have hN := HQ.out.1.note b
      obtain ⟨F, hF⟩ : ∃ x, x = ntF S b := ⟨_, rfl⟩
      obtain ⟨G, hG⟩ : ∃ x, x = ntT S b := ⟨_, rfl⟩
      obtain ⟨ok, hok⟩ : ∃ x, x = ntB S b := ⟨_, rfl⟩
      rw [← hF, ← hG, ← hok] at hN
      have HF : Hid (F = ntF S b ∧ G = ntT S b) := ⟨hF, hG⟩
      clear hF hG hok hSB
      go_upto_region 10 with fail
      go_cut [63] (fun s wx => s = .bool false ∧ wx = wr)
      case first =>
        by_cases h2 : f + 1 < b
        · have hL := HQ.out.2.1.look (i := b) ⟨by omega, by omega⟩
          rw [HQ.out.2.2.2.2.2.2 (by omega) b (by omega) (by have := HQ.out.2.2.1.sv (by omega); have := HQ.out.2.2.2.1; omega)] at hL
          go_wp2_with fail
          go_meet
          exact ⟨by simp, rfl⟩
        · go_wp2_with fail
          go_meet
          exact ⟨by simp, rfl⟩
      case rest =>
      obtain ⟨rfl, hwc⟩ := hcut
      rw [hwc]
      clear hwc
      go_wp2_with fail
      refine hN.mono ?_; rintro e w4 ⟨rfl, u4, l4⟩
      obtain ⟨V, hV⟩ : ∃ U, U = w4.alloc (.cells #[.int .i64 F, .int .i64 G] 34) := ⟨_, rfl⟩
      obtain ⟨K, hK⟩ : ∃ M, M = w4.heap.size := ⟨_, rfl⟩
      have hKb : V.heap[K]? = some (.cells #[.int .i64 F, .int .i64 G] 34 (0, 0)) := by rw [hV, hK]; exact new_obj _ _ _
      have hm4 := HQ.out.2.1.blk (l4 Q (by simp))
      have hQK : Q < K := by rw [hK]; exact hm4.lt
      have u5 := u4.more (w' := V) (M := K) (by rw [hV]; exact (Kp.refl w4).alloc _) (by omega) (heap_lt hKb)
      have hm5 : MpB V Q n c T D := hm4.blk (by rw [hV]; exact ((Kp.refl w4).alloc _).block Q hm4.lt)
      have HV : Hid (V = w4.alloc (.cells #[.int .i64 F, .int .i64 G] 34) ∧ K = w4.heap.size) := ⟨hV, hK⟩
      have H1 : Hid (Pu W1 V a (ntS S b) [K, Q] ∧ MpB V Q (n + (F - F).toNat) c T D ∧ V.heap[K]? = some (.cells #[.int .i64 F, .int .i64 G] 34 (0, 0)) ∧ (∀ x, T x = true → T x = true) ∧ (∀ x, F ≤ x → x < F → T x = true)) := ⟨u5, by rw [Int.sub_self]; exact hm5, hKb, fun _ h => h, fun x h1 h2 => by omega⟩
      have HA : Hid (Rn f S b ∧ S.B = B ∧ (b = f → n = 0) ∧ (f < b → (n : Int) ≤ S.e) ∧ (f < b → ∀ x, f + 2 ≤ x → x < S.e → T x = true) ∧ K ≠ Q ∧ W1.heap.size ≤ Q) := ⟨HQ.out.2.2.1, HQ.out.2.2.2.1, HQ.out.2.2.2.2.1, HQ.out.2.2.2.2.2.1, HQ.out.2.2.2.2.2.2, by omega, HQ0.out⟩
      have g0 := cell_of hKb 0
      clear hV hK hKb hm4 hm5 u5 u4 l4 hN HQ hQK
      go_upto_region 13 with fail
      rw [← HV.out.1, ← HV.out.2]
      clear HV
      go_wp2_with fail
      clear g0
      go_loopw [14] (fun i wr => ∃ (j : Int) (c' : Nat) (T' : Int → Bool) (D' : DataW Unit), i = .int .i64 j ∧ F ≤ j ∧ j ≤ max F G ∧ Hid (Pu W1 wr a (ntS S b) [K, Q] ∧ MpB wr Q (n + (j - F).toNat) c' T' D' ∧ wr.heap[K]? = some (.cells #[.int .i64 F, .int .i64 G] 34 (0, 0)) ∧ (∀ x, T x = true → T' x = true) ∧ (∀ x, F ≤ x → x < j → T' x = true))) (fun i _ => (G - intOf i).toNat)
      case atStart => exact ⟨F, c, T, D, rfl, by omega, by omega, H1⟩
      case round =>
        clear H1
        obtain ⟨j, c', T', D', rfl, hj1, hj2, HP⟩ := hrel
        have g1 := cell_of HP.out.2.2.1 1
        by_cases hjG : j < G
        · obtain ⟨t1, t2, t3, t4, t5, t6⟩ := tell HR.out (by rw [HA.out.2.1]; exact p2) HA.out.2.2.1 HA.out.2.2.2.1 (i := j) (by rw [← HF.out.1]; exact hj1) (by rw [← HF.out.2]; exact hjG)
          obtain ⟨v6, D6, hput, hm6, s6⟩ := HP.out.2.1.put (i := j) ⟨by omega, by omega⟩ (by rw [← HF.out.1] at t4; omega)
          have H6 : Hid (∃ (c' : Nat) (T' : Int → Bool) (D' : DataW Unit), Pu W1 v6 a (ntS S b) [K, Q] ∧ MpB v6 Q (n + (j + 1 - F).toNat) c' T' D' ∧ v6.heap[K]? = some (.cells #[.int .i64 F, .int .i64 G] 34 (0, 0)) ∧ (∀ x, T x = true → T' x = true) ∧ (∀ x, F ≤ x → x < j + 1 → T' x = true)) := by
            refine ⟨_, _, _, HP.out.1.sp s6 (fun t ht => ?_), by rw [show n + (j + 1 - F).toNat = n + (j - F).toNat + 1 by omega]; exact hm6, (s6.block K (heap_lt HP.out.2.2.1) (by simp; exact HA.out.2.2.2.2.2.1)).trans HP.out.2.2.1, fun x hx => ?_, fun x h1 h2 => ?_⟩
            · simp at ht
              subst ht
              exact ⟨by simp, HA.out.2.2.2.2.2.2⟩
            · show (if x = j then true else T' x) = true
              split
              · rfl
              · exact HP.out.2.2.2.1 x hx
            · show (if x = j then true else T' x) = true
              split
              · rfl
              · exact HP.out.2.2.2.2 x h1 (by omega)
          clear HP hm6 s6 t1 t4 t5 t6
          go_wp2
          go_roundw
          case rel => exact ⟨j + 1, _, _, _, rfl, by omega, by omega, H6.out.choose_spec.choose_spec.choose_spec⟩
          case measure => simp [intOf]; omega
        · have H7 : Hid (∃ (n' c' : Nat) (S' : AS) (T' : Int → Bool) (D' : DataW Unit), Pu W1 wr a S' [Q] ∧ MpB wr Q n' c' T' D' ∧ Rn f S' (b + 1) ∧ S'.B = B ∧ (b + 1 = f → n' = 0) ∧ (f < b + 1 → (n' : Int) ≤ S'.e) ∧ (f < b + 1 → ∀ x, f + 2 ≤ x → x < S'.e → T' x = true)) := by
            obtain ⟨q1, q2, q3, q4, q5⟩ := HP.out
            obtain ⟨r1, r2, r3, r4, r5, r6, r7⟩ := HA.out
            refine ⟨_, _, _, _, _, ⟨q1.1, q1.2.1, q1.2.2.1, q1.2.2.2.1, fun x hx => q1.2.2.2.2 x (by simp at hx ⊢; exact .inr hx)⟩, q2, HR.out.rn, (nt_sz S b).1.trans r2, fun h => by omega, fun _ => n_next HR.out p7 r3 r4 ?_, fun _ => sv_next r1 HR.out (by rw [r2]; exact hlt) r5 q4 (fun x h1 h2 => q5 x (by rw [HF.out.1]; exact h1) (by rw [← HF.out.2] at h2; omega))⟩
            rw [← HF.out.1, ← HF.out.2]
            omega
          clear HP HA HR
          go_wp2
          go_roundw
          case rel => exact ⟨b + 1, _, _, _, _, _, rfl, by omega, by omega, H7.out.choose_spec.choose_spec.choose_spec.choose_spec.choose_spec⟩
          case measure => simp [intOf]; omega
    · have HE : Hid (Kp w wr) := HK1.out.trans HQ.out.1.k
      clear HQ
      go_wp2
      go_ret
      exact ⟨rfl, HE.out⟩

set_option maxRecDepth 100000 in
theorem lifted (os : Os) (started : os.Started) (H : Type) (enc : TypeId × Value → H) :
    ReturnsInHanded {} Try.checked os 5 .any (Rows.aheadServesSpec.pre6 enc Try.prog Try.f5 Rows.aheadServesRow.domain false) (Rows.aheadServesSpec.post enc Try.prog Try.f5 false true false false) := by
  refine returnsInHanded_of_change (C := Try.checked) own started (by kernel_rfl) Try.func5
    (ChangeSpec.witness6 (enc := enc) (C := Try.checked) false ⟨#[], #[.agg #[.int .i64 0, .int .i64 0, .int .i64 0], .int .i64 0], []⟩ 8 (by kernel_rfl) (by kernel_rfl) (by kernel_rfl) (by kernel_rfl)) ?_
  intro W base args ds gs before hval0 hW hcnd _
  have hval : ∀ (j : Nat) t v, Try.f5.params[j]? = some t → args[j]? = some v → Value.okWide Try.prog W .any base t v := hval0
  have hW' := hW
  have hlt := hW.lt
  obtain ⟨p, q, hA0, hV, rfl, hfz, hnd⟩ := hW
  have hA : DataW.TrodAll enc Try.prog W 0 (fun _ => true) true Try.f5.params.toList args.toList ds p := hA0
  have hAk := hA
  rw [Try.params5] at hA hval
  obtain ⟨v0, vs0, d0, ds0, p0, q0, hargs, rfl, rfl, h0, r0⟩ := trodAll_cons hA
  obtain ⟨v1, vs1, d1, ds1, p1, q1, rfl, rfl, rfl, h1, r1⟩ := trodAll_cons r0
  obtain ⟨rfl, rfl, rfl⟩ := trodAll_nil r1
  obtain rfl : args = #[v0, v1] := by cases args; simp_all
  obtain ⟨rfl, rfl⟩ := trodVars_none hV
  obtain ⟨a0, b0, c0, rfl, w0, x0, y0⟩ := open_ints3 Try.underlying22 Try.underlying3 cellsI cellsK (hval 0 22 v0 rfl rfl) h0
  obtain ⟨a1, rfl, rfl, rfl, w1⟩ := open_int Try.underlying3 (hval 1 3 v1 rfl rfl) h1
  clear hA0 hval0
  simp only [List.append_nil] at hW' hAk hlt
  refine (walk W a0 b0 c0 a1 w0 x0 y0 w1).mono fun e W' ⟨he, hg⟩ => ?_
  subst he
  exact ⟨_, rfl, post_kp (pv := []) hW' (fun _ _ _ => (trodAll_cons_mk (shut_bool Try.underlying4 _) trodAll_mk0)) (fun sp hsp => trodAll_stays laidOut (by rw [Try.params5]; exact of_decide_eq_true (by kernel_rfl)) hAk (fun x hx => Below.same hg (hlt x hx)) hsp) (fun _ _ => rfl) (by simp) hg⟩

theorem over : Rows.aheadServesRow.holds Try.pinned (OpenSpec.ofChange Rows.aheadServesSpec) :=
  OpenClaim.holds_of_wide 5 Try.f5 rfl rfl rfl rfl rfl rfl rfl ⟨rfl, rfl, rfl, rfl, rfl⟩ rfl rfl rfl rfl rfl (by kernel_rfl) Try.func5 (by kernel_rfl)
    (of_decide_eq_true (by kernel_rfl)) (by unfold Func.isWrapper; first | (rw [if_pos (by decide +kernel)]; kernel_rfl) | (rw [if_neg (by decide +kernel)]; exact ⟨rfl, rfl⟩))
    (fun os started H enc _ => lifted os started H enc)

end Go.Proofs.Ytpeckfeiaomieaa.aheadServes
namespace Go.Proofs.Ytpeckfeiaomieaa
theorem aheadServes_holds : Rows.AheadServesSaid := aheadServes.over
end Go.Proofs.Ytpeckfeiaomieaa
