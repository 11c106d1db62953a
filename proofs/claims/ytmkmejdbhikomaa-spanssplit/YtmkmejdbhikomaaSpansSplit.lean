/-
  For every span and every part the law function SpansSplit returns true (Go: trunnionlaw08.SpansSplit). No condition.
-/
import Derived.Test.YtmkmejdbhikomaaRows
import Derived.Test.YtmkmejdbhikomaaBufArgs
import Derived.Test.YtmkmejdbhikomaaSpMask
import Derived.Test.YtmkmejdbhikomaaSpSplit2
import Derived.WalkKit
import Derived.ProofKit
import Derived.OpenShut
import Derived.ShutString
import Derived.Deep.QuietTactic
import Derived.BigQuiet
import Derived.Deep.RegionWith
import Derived.Deep.DeepCutAuto
import Derived.Deep.CutBlock
namespace Go.Proofs.Ytmkmejdbhikomaa.spansSplit
open Go.ChangeShapes Go.WideShapes Go.ChangeAt Go.RowKit
open Go.ChangeMaps (open_string shut_string)
open Go.Proofs.Ytmkmejdbhikomaa Plain
set_option linter.unusedVariables false

theorem own : ownKnob Try.prog.godebug = none := by kernel_rfl
theorem laidOut : laidOutB Try.prog = true := by kernel_rfl
theorem cellsI : Try.prog.cellsOf 3 = 1 := by kernel_rfl
theorem cellsSp : Try.prog.cellsOf 23 = 2 := by kernel_rfl
set_option maxRecDepth 100000 in
set_option maxHeartbeats 4000000 in
theorem walkN (w : World) (x y part : Int) (hx1 : -9223372036854775808 ≤ x) (hx2 : x ≤ 9223372036854775807) (hy1 : -9223372036854775808 ≤ y) (hy2 : y ≤ 9223372036854775807) (hp1 : -9223372036854775808 ≤ part) (hp2 : part ≤ 9223372036854775807) :
    Calls Try.prog 6 #[.agg #[.int .i64 x, .int .i64 y], .int .i64 part] w fun e w' => e = .returned (.bool true) ∧ Kp w w' := by
  have hm1 := mask1023 x
  have hm2 := mask255 y
  have hm3 := mask31 part
  obtain ⟨p, hp⟩ : ∃ p, x % 1024 = p := ⟨_, rfl⟩
  obtain ⟨q, hq⟩ : ∃ q, y % 256 = q := ⟨_, rfl⟩
  obtain ⟨r, hr⟩ : ∃ r, part % 32 = r := ⟨_, rfl⟩
  have hpb : 0 ≤ p ∧ p < 1024 := by omega
  have hqb : 0 ≤ q ∧ q < 256 := by omega
  have hrb : 0 ≤ r ∧ r < 32 := by omega
  obtain ⟨p0, p1⟩ := hpb
  obtain ⟨q0, q1⟩ := hqb
  obtain ⟨r0, r1⟩ := hrb
  rw [hp] at hm1
  rw [hq] at hm2
  rw [hr] at hm3
  clear hp hq hr
  obtain ⟨w0, hw0⟩ : ∃ w0, w0 = (w.alloc (.cells #[.int .i64 x, .int .i64 y] 23)).alloc (.cells #[.int .i64 x, .int .i64 y, .int .i64 p, .int .i64 (p + q)] 23) := ⟨_, rfl⟩
  have HW : Hid (w0 = (w.alloc (.cells #[.int .i64 x, .int .i64 y] 23)).alloc (.cells #[.int .i64 x, .int .i64 y, .int .i64 p, .int .i64 (p + q)] 23)) := hw0
  have k0 : Kp w w0 := by rw [hw0]; exact ((Kp.refl w).alloc _).alloc _
  have hB0 : InB w0 (w.heap.size + 1) [x, y, p, p + q] := by rw [hw0]; have := InB.new (w.alloc (.cells #[.int .i64 x, .int .i64 y] 23)) [x, y, p, p + q] 23; simpa using this
  have HB0 : Hid (InB w0 (w.heap.size + 1) [x, y, p, p + q]) := hB0
  have HK0 : Hid (Kp w w0) := k0
  have HPB : Hid (∀ k, k < 2 → [part, 1 + r].getD k 0 ≤ 9223372036854775807) := fun k hk => by
    have h5 : k = 0 ∨ k = 1 := by omega
    rcases h5 with rfl | rfl
    · exact hp2
    · show 1 + r ≤ _; omega
  clear hw0 k0 hB0
  go_enter Try.func6, Try.ntmps6
  go_wp2
  rw [show (w.alloc (.cells #[.int .i64 x, .int .i64 y] 23)).alloc (.cells #[.int .i64 x, .int .i64 y, .int .i64 p, .int .i64 (p + q)] 23) = w0 from HW.out.symm]
  clear HW hm1 hm2
  go_loopw [27] (fun i wr => ∃ k : Nat, k ≤ 2 ∧ i = .int .i64 k ∧ Kp w0 wr) (fun i _ => 2 - (intOf i).toNat)
  case atStart => exact ⟨0, by omega, rfl, Kp.refl w0⟩
  case round =>
    obtain ⟨k, hk, rfl, hK⟩ := hrel
    by_cases hlt : k < 2
    · have hltI : decide ((k : Int) < 2) = true := decide_eq_true (by omega)
      have c0 := hK.held (HB0.out (k * 2) (by simp; omega))
      have c1 := hK.held (HB0.out (k * 2 + 1) (by simp; omega))
      obtain ⟨a, ha⟩ : ∃ a, a = [x, y, p, p + q].getD (k * 2) 0 := ⟨_, rfl⟩
      obtain ⟨b, hb⟩ : ∃ b, b = [x, y, p, p + q].getD (k * 2 + 1) 0 := ⟨_, rfl⟩
      rw [← ha] at c0
      rw [← hb] at c1
      clear ha hb
      obtain ⟨wo, hwo⟩ : ∃ wo, wo = wr := ⟨_, rfl⟩
      rw [← hwo] at c0 c1 hK ⊢
      clear hwo
      obtain ⟨w1, hw1⟩ : ∃ w1, w1 = (wo.alloc (.cells #[.int .i64 a, .int .i64 b] 23)).alloc (.cells #[.int .i64 part, .int .i64 (1 + r)] 3) := ⟨_, rfl⟩
      have HW1 : Hid (w1 = (wo.alloc (.cells #[.int .i64 a, .int .i64 b] 23)).alloc (.cells #[.int .i64 part, .int .i64 (1 + r)] 3)) := hw1
      have K1 : Hid (Kp w0 w1) := by rw [hw1]; exact (hK.alloc _).alloc _
      have d0 : w1.cell? ⟨wo.heap.size, 0, none⟩ = some (.int .i64 a) := by rw [hw1]; exact ((Kp.refl _).alloc _).held (by simp)
      have d1 : w1.cell? ⟨wo.heap.size, 1, none⟩ = some (.int .i64 b) := by rw [hw1]; exact ((Kp.refl _).alloc _).held (by simp)
      have hD : InB w1 (wo.heap.size + 1) [part, 1 + r] := by rw [hw1]; have := InB.new (wo.alloc (.cells #[.int .i64 a, .int .i64 b] 23)) [part, 1 + r] 3; simpa using this
      have HD : Hid (InB w1 (wo.heap.size + 1) [part, 1 + r]) := hD
      clear hw1 hK hD
      go_wp2
      rw [show (wo.alloc (.cells #[.int .i64 a, .int .i64 b] 23)).alloc (.cells #[.int .i64 part, .int .i64 (1 + r)] 3) = w1 from HW1.out.symm]
      clear HW1 c0 c1
      have D0 : Hid (w1.cell? ⟨wo.heap.size, 0, none⟩ = some (.int .i64 a)) := d0
      have D1 : Hid (w1.cell? ⟨wo.heap.size, 1, none⟩ = some (.int .i64 b)) := d1
      clear d0 d1
      go_loopw [37] (fun i wr => ∃ j : Nat, j ≤ 2 ∧ i = .int .i64 j ∧ Kp w1 wr) (fun i _ => 2 - (intOf i).toNat)
      case atStart => exact ⟨0, by omega, rfl, Kp.refl w1⟩
      case round =>
        obtain ⟨j, hj, rfl, hK⟩ := hrel
        by_cases hlt2 : j < 2
        · have e0 := hK.held D0.out
          have e1 := hK.held D1.out
          have e2 := hK.held (HD.out j (by simp; omega))
          have hpb := HPB.out j hlt2
          obtain ⟨c, hc⟩ : ∃ c, c = [part, 1 + r].getD j 0 := ⟨_, rfl⟩
          rw [← hc] at e2 hpb
          clear hc
          have hS := split_any (a, b) c hpb
          have hR := rsplit_any (a, b) c hpb
          unfold spV at hS hR
          obtain ⟨E, hE⟩ : ∃ E, E = spE (a, b) c := ⟨_, rfl⟩
          obtain ⟨R, hRR⟩ : ∃ R, R = spR (a, b) c := ⟨_, rfl⟩
          rw [← hE, ← hRR] at hS hR
          simp only at hS hR
          clear hE hRR
          go_wp2_with fail
          refine (hS _).mono ?_; rintro e w2 ⟨ra, rfl, s1, k2⟩
          have S1 : Hid (SpIn w2 ra R) := s1
          have f0 := k2.held e0
          have f1 := k2.held e1
          have K2 : Hid (Kp w1 w2) := hK.trans k2
          clear hS s1 k2 e0 e1 e2 hK
          go_wp2_with fail
          refine (hR _).mono ?_; rintro e w3 ⟨rb, rfl, s2, k3⟩
          have hT := same_any ra rb R R w3 (S1.out.kept k3) s2
          rw [show decide (R = R) = true from decide_eq_true rfl] at hT
          have K3 : Hid (Kp w1 w3) := K2.out.trans k3
          clear hR s2 k3 K2 S1 f0 f1
          go_wp2_with fail
          refine hT.mono ?_; rintro e w4 ⟨rfl, k4⟩
          have K4 := K3.out.trans k4
          clear hT k4 K3
          go_wp2
          go_roundw
          case rel => exact ⟨j + 1, by omega, by go_num, K4⟩
          case measure => simp [intOf]; omega
        · have K4 : Kp w0 wr := K1.out.trans hK
          clear K1 hK
          go_wp2
          go_roundw
          case rel => exact ⟨k + 1, by omega, by go_num, K4⟩
          case measure => simp [intOf]; omega
    · go_wp2_with fail
      refine (wakes_any _).mono ?_; rintro e w2 ⟨rfl, k2⟩
      have K2 := (HK0.out.trans hK).trans k2
      clear hK k2
      go_wp2
      go_ret
      exact ⟨rfl, K2⟩
theorem walk (w : World) (a0 b0 : Int) (a1 : Int) (w0 : (Lit.int .i64 a0).wf = true) (x0 : (Lit.int .i64 b0).wf = true) (w1 : (Lit.int .i64 a1).wf = true) :
    Calls Try.prog 6 #[.agg #[.int .i64 a0, .int .i64 b0], .int .i64 a1] w fun e w' => e = .returned (.bool true) ∧ Kp w w' := by
  have h1 := bounds_i64 w0
  have h2 := bounds_i64 x0
  have h3 := bounds_i64 w1
  exact walkN w a0 b0 a1 (by omega) (by omega) (by omega) (by omega) (by omega) (by omega)

set_option maxRecDepth 100000 in
theorem lifted (os : Os) (started : os.Started) (H : Type) (enc : TypeId × Value → H) :
    ReturnsInHanded {} Try.checked os 6 .any (Rows.spansSplitSpec.pre6 enc Try.prog Try.f6 Rows.spansSplitRow.domain false) (Rows.spansSplitSpec.post enc Try.prog Try.f6 false true false false) := by
  refine returnsInHanded_of_change (C := Try.checked) own started (by kernel_rfl) Try.func6
    (ChangeSpec.witness6 (enc := enc) (C := Try.checked) false ⟨#[], #[.agg #[.int .i64 0, .int .i64 0], .int .i64 0], []⟩ 8 (by kernel_rfl) (by kernel_rfl) (by kernel_rfl) (by kernel_rfl)) ?_
  intro W base args ds gs before hval0 hW hcnd _
  have hval : ∀ (j : Nat) t v, Try.f6.params[j]? = some t → args[j]? = some v → Value.okWide Try.prog W .any base t v := hval0
  have hW' := hW
  have hlt := hW.lt
  obtain ⟨p, q, hA0, hV, rfl, hfz, hnd⟩ := hW
  have hA : DataW.TrodAll enc Try.prog W 0 (fun _ => true) true Try.f6.params.toList args.toList ds p := hA0
  have hAk := hA
  rw [Try.params6] at hA hval
  obtain ⟨v0, vs0, d0, ds0, p0, q0, hargs, rfl, rfl, h0, r0⟩ := trodAll_cons hA
  obtain ⟨v1, vs1, d1, ds1, p1, q1, rfl, rfl, rfl, h1, r1⟩ := trodAll_cons r0
  obtain ⟨rfl, rfl, rfl⟩ := trodAll_nil r1
  obtain rfl : args = #[v0, v1] := by cases args; simp_all
  obtain ⟨rfl, rfl⟩ := trodVars_none hV
  obtain ⟨a0, b0, rfl, w0, x0⟩ := open_span Try.underlying23 cellsSp rfl rfl cellsI cellsI Try.underlying3 Try.underlying3 (hval 0 23 v0 rfl rfl) h0
  obtain ⟨a1, rfl, rfl, rfl, w1⟩ := open_int Try.underlying3 (hval 1 3 v1 rfl rfl) h1
  clear hA0 hval0
  simp only [List.append_nil] at hW' hAk hlt
  refine (walk W a0 b0 a1 w0 x0 w1).mono fun e W' ⟨he, hg⟩ => ?_
  subst he
  exact ⟨_, rfl, post_kp (pv := []) hW' (fun _ _ _ => (trodAll_cons_mk (shut_bool Try.underlying4 _) trodAll_mk0)) (fun sp hsp => trodAll_stays laidOut (by rw [Try.params6]; exact of_decide_eq_true (by kernel_rfl)) hAk (fun x hx => Below.same hg (hlt x hx)) hsp) (fun _ _ => rfl) (by simp) hg⟩

theorem over : Rows.spansSplitRow.holds Try.pinned (OpenSpec.ofChange Rows.spansSplitSpec) :=
  OpenClaim.holds_of_wide 6 Try.f6 rfl rfl rfl rfl rfl rfl rfl ⟨rfl, rfl, rfl, rfl, rfl⟩ rfl rfl rfl rfl rfl (by kernel_rfl) Try.func6 (by kernel_rfl)
    (of_decide_eq_true (by kernel_rfl)) (by unfold Func.isWrapper; first | (rw [if_pos (by decide +kernel)]; kernel_rfl) | (rw [if_neg (by decide +kernel)]; exact ⟨rfl, rfl⟩))
    (fun os started H enc _ => lifted os started H enc)

end Go.Proofs.Ytmkmejdbhikomaa.spansSplit
namespace Go.Proofs.Ytmkmejdbhikomaa
theorem spansSplit_holds : Rows.SpansSplitSaid := spansSplit.over
end Go.Proofs.Ytmkmejdbhikomaa
