/-
  For every label as plain data and every two bytes the law function LabelBack returns true (Go: trunnionlaw12.LabelBack). No condition.
-/
import Derived.Test.YtobpgfnmhpgkeaaRows
import Derived.Test.YtobpgfnmhpgkeaaBufArgs
import Derived.Test.YtobpgfnmhpgkeaaLbLabels
import Derived.Test.YtobpgfnmhpgkeaaLbAsk
import Derived.Test.YtobpgfnmhpgkeaaLbWakes
import Derived.Test.YtobpgfnmhpgkeaaLbArgs
import Derived.Test.YtobpgfnmhpgkeaaLbTurn
import Derived.WalkKit
import Derived.ProofKit
import Derived.OpenShut
import Derived.ShutString
import Derived.Deep.QuietTactic
import Derived.BigQuiet
import Derived.Deep.RegionWith
import Derived.Deep.RegionHeld3
import Derived.Deep.DeepCutAuto
import Derived.Deep.CutBlock
namespace Go.Proofs.Ytobpgfnmhpgkeaa.labelBack
open Go.ChangeShapes Go.WideShapes Go.ChangeAt Go.RowKit
open Go.ChangeMaps (open_string shut_string)
open Go.Proofs.Ytobpgfnmhpgkeaa Plain
set_option linter.unusedVariables false

theorem own : ownKnob Try.prog.godebug = none := by kernel_rfl
theorem laidOut : laidOutB Try.prog = true := by kernel_rfl
theorem cellsB : Try.prog.cellsOf 5 = 1 := by kernel_rfl
theorem cellsU2 : Try.prog.cellsOf 47 = 2 := by kernel_rfl
set_option maxRecDepth 100000 in
set_option maxHeartbeats 8000000 in
theorem walkN (w : World) (n s ep : Int) (rs rm : Value) (sts mks : List Int) (h1 : Nl w rs sts) (h2 : Nl w rm mks) (a b : Nat) (ha : a < 256) (hb : b < 256) :
    Calls Try.prog 7 #[lV n s ep rs rm, .agg #[.int .u8 (a : Int), .int .u8 (b : Int)]] w fun e w' => e = .returned (.bool true) ∧ Kp w w' := by
  obtain ⟨ra, rn, rc, rfl⟩ := h1.shape
  obtain ⟨rb, rm', rd, rfl⟩ := h2.shape
  have hLb := fun w' (k : Kp w w') => labels_any n s ep _ _ sts mks w' (h1.kept k) (h2.kept k)
  unfold lV at hLb ⊢
  clear h1 h2
  go_enter Try.func7, Try.ntmps7
  go_wp2_with fail
  refine (hLb _ (((Kp.refl w).alloc _).alloc _)).mono ?_; rintro e w1 ⟨sv1, mv1, sv2, mv2, rfl, ⟨n1, n2⟩, ⟨n3, n4⟩, k1⟩
  obtain ⟨x1, y1, z1, rfl⟩ := n1.shape
  obtain ⟨x2, y2, z2, rfl⟩ := n2.shape
  obtain ⟨x3, y3, z3, rfl⟩ := n3.shape
  obtain ⟨x4, y4, z4, rfl⟩ := n4.shape
  obtain ⟨S, hS⟩ : ∃ S, S = sts.take 40 := ⟨_, rfl⟩
  obtain ⟨M, hM⟩ : ∃ M, M = mks.take 40 := ⟨_, rfl⟩
  rw [← hS] at n1 n3
  rw [← hM] at n2 n4
  have K1 : Hid (Kp w w1) := Kp.trans (((Kp.refl w).alloc _).alloc _) k1
  have v0 : w1.cell? ⟨w.heap.size + 1, 0, none⟩ = some (.int .u8 (a : Int)) := k1.held (by rw [World.cell?_alloc_at _ _ _ _ (by simp)]; rfl)
  have v1 : w1.cell? ⟨w.heap.size + 1, 1, none⟩ = some (.int .u8 (b : Int)) := k1.held (by rw [World.cell?_alloc_at _ _ _ _ (by simp)]; rfl)
  have q1 := (Lc.new w1 n s ep (.slice x1 y1 z1) (.slice x2 y2 z2) 29).kept ((Kp.refl _).alloc (.cells #[.int .i64 n, .int .i64 s, .int .i64 ep, .slice x3 y3 z3, .slice x4 y4 z4] 32))
  have q2 := Lc.new (w1.alloc (.cells #[.int .i64 n, .int .i64 s, .int .i64 ep, .slice x1 y1 z1, .slice x2 y2 z2] 29)) n s ep (.slice x3 y3 z3) (.slice x4 y4 z4) 32
  rw [asz] at q2
  have kW : Kp w1 ((w1.alloc (.cells #[.int .i64 n, .int .i64 s, .int .i64 ep, .slice x1 y1 z1, .slice x2 y2 z2] 29)).alloc (.cells #[.int .i64 n, .int .i64 s, .int .i64 ep, .slice x3 y3 z3, .slice x4 y4 z4] 32)) := ((Kp.refl w1).alloc _).alloc _
  obtain ⟨W1, hW1⟩ : ∃ W, W = (w1.alloc (.cells #[.int .i64 n, .int .i64 s, .int .i64 ep, .slice x1 y1 z1, .slice x2 y2 z2] 29)).alloc (.cells #[.int .i64 n, .int .i64 s, .int .i64 ep, .slice x3 y3 z3, .slice x4 y4 z4] 32) := ⟨_, rfl⟩
  have HW1 := hid hW1
  rw [← hW1] at q1 q2 kW
  have hN := fun V (k : Kp W1 V) => And.intro (And.intro (n1.kept (kW.trans k)) (n2.kept (kW.trans k))) (And.intro (n3.kept (kW.trans k)) (n4.kept (kW.trans k)))
  have KW1 : Hid (Kp w W1) := K1.out.trans kW
  have r0 := kW.held v0
  have r1 := kW.held v1
  clear v0 v1 hW1 hS hM hLb k1 n1 n2 n3 n4 kW K1
  obtain ⟨A, hA⟩ : ∃ A, A = w1.heap.size := ⟨_, rfl⟩
  rw [← hA] at q1 q2
  have hA2 := hA.symm
  have hp1 := put_any ⟨n, s, ep, S, M⟩ _ _ W1 (hN _ (Kp.refl W1)).1.1 (hN _ (Kp.refl W1)).1.2
  have HN := hid hN
  have hE1 : lg ⟨n, s, ep, S, M⟩ = true → puS ⟨n, s, ep, S, M⟩ = ptS ⟨n, s, ep, S, M⟩ ∧ puE ⟨n, s, ep, S, M⟩ = 0 := fun h => ⟨if_pos h, if_pos h⟩
  have hE2 : lg ⟨n, s, ep, S, M⟩ = false → puS ⟨n, s, ep, S, M⟩ = noS ∧ puE ⟨n, s, ep, S, M⟩ = 4 := fun h => ⟨if_neg (by rw [h]; simp), if_neg (by rw [h]; simp)⟩
  simp only at hp1
  unfold lV at hp1
  have HQ1 := hid q1
  have HQ2 := hid q2
  have HR0 := hid r0
  have HR1 := hid r1
  obtain ⟨a0, a1, a2, a3, a4⟩ := q1
  clear hA hN q2 r0 r1
  cases e1 : lg ⟨n, s, ep, S, M⟩ with
  | false =>
    obtain ⟨z1, z2⟩ := hE2 e1
    rw [z1, z2] at hp1
    have hG := fun w' (k : Kp W1 w') => lgood_any ⟨n, s, ep, S, M⟩ _ _ w' (HN.out _ k).1.1 (HN.out _ k).1.2
    rw [e1] at hG
    simp only at hG
    unfold lV at hG
    unfold noS at hp1
    clear z1 z2 hE1 hE2 e1
    go_wp2_with fail
    rw [← HW1.out]
    clear HW1 hA2
    refine hp1.mono ?_; rintro e w2 ⟨rfl, k2⟩
    have HK2 := hid k2
    clear hp1 a0 a1 a2 a3 a4 k2
    go_wp2_with fail
    refine (wakes_any w2).mono ?_; rintro e w3 ⟨rfl, k3⟩
    have HK3 := hid (HK2.out.trans k3)
    clear k3 HK2
    go_wp2_with fail
    refine (wakes_any w3).mono ?_; rintro e w4 ⟨rfl, k4⟩
    have HK4 := hid (HK3.out.trans k4)
    clear k4 HK3
    obtain ⟨a0, a1, a2, a3, a4⟩ := HQ1.out.kept HK4.out
    go_wp2_with fail
    refine (hG _ HK4.out).mono ?_; rintro e w5 ⟨rfl, k5⟩
    have KF := hid (KW1.out.trans (HK4.out.trans k5))
    clear hG k5 a0 a1 a2 a3 a4
    go_wp2
    go_ret
    exact ⟨rfl, KF.out⟩
  | true =>
    obtain ⟨z1, z2⟩ := hE1 e1
    rw [z1, z2] at hp1
    have hz := ptS_size ⟨n, s, ep, S, M⟩
    have hG := fun w' => get_any (ptS ⟨n, s, ep, S, M⟩) (by rw [ptS_size]; omega) w'
    obtain ⟨g1, g2⟩ := gt_pt e1
    rw [g1, g2] at hG
    have HBf : Hid (∀ i, i < 64 → bf (ptS ⟨n, s, ep, S, M⟩) i = sb ⟨n, s, ep, S, M⟩ i) := fun i hi => ptS_at (lg_gl e1) i hi
    have HTu := hid (turned_is e1 (a % 64) b (by omega) hb)
    have HSb := hid (sb_lt (lg_gl e1) (a % 64))
    obtain ⟨PS, ePS⟩ : ∃ x, x = ptS ⟨n, s, ep, S, M⟩ := ⟨_, rfl⟩
    rw [← ePS] at hp1 hG hz HBf
    simp only at hG
    unfold lV at hG
    have hl6 := low6 a ha
    obtain ⟨J, eJ⟩ : ∃ J, J = a % 64 := ⟨_, rfl⟩
    have hJ : J < 64 := by omega
    rw [← eJ] at hl6 HTu HSb
    obtain ⟨F, eF⟩ : ∃ F, F = sb ⟨n, s, ep, S, M⟩ := ⟨_, rfl⟩
    rw [← eF] at HTu HSb HBf
    obtain ⟨TS, eTS⟩ : ∃ T, T = bs 64 (fun i => if i = J then F J ^^^ b else F i) := ⟨_, rfl⟩
    rw [← eTS] at HTu
    have HTS := hid eTS
    have hTz : TS.size = 64 := by rw [eTS, bs_size]
    have hG2 := fun w' => get_any TS (by rw [hTz]; omega) w'
    have htu := HTu.out
    obtain ⟨GE, eGE⟩ : ∃ x, x = gtE TS := ⟨_, rfl⟩
    rw [← eGE] at hG2 htu
    obtain ⟨GL', eGL⟩ : ∃ x, x = gtL TS := ⟨_, rfl⟩
    rw [← eGL] at hG2
    obtain ⟨gn, gs, ge, gst, gmk⟩ := GL'
    simp only at hG2
    unfold lV at hG2
    have HFx := HSb.out
    have ht8 := turn8 (F J) b HFx hb
    obtain ⟨y, ey⟩ : ∃ y, y = F J ^^^ b := ⟨_, rfl⟩
    obtain ⟨x0, ex0⟩ : ∃ x, x = F J := ⟨_, rfl⟩
    have HX0 := hid ex0
    have HY := hid ey
    rw [← ex0] at ht8 HFx ey
    rw [← ey] at ht8
    have hS1 := fun V (k : Kp W1 V) (u1 u2 : Value) (h1 : Nl V u1 S) (h2 : Nl V u2 M) => same_any ⟨n, s, ep, S, M⟩ _ _ _ _ V h1 h2 (HN.out V k).2.1 (HN.out V k).2.2
    simp only at hS1
    unfold lV at hS1
    clear z1 z2 hE1 hE2 e1 g1 g2 ePS eJ eF eTS eGE eGL HTu HSb ey ex0
    go_wp2_with fail
    rw [← HW1.out]
    clear HW1 hA2
    refine hp1.mono ?_; rintro e w2 ⟨rfl, k2⟩
    have HK2 := hid k2
    clear hp1 a0 a1 a2 a3 a4 k2
    go_wp2_with fail
    refine (wakes_any w2).mono ?_; rintro e w3 ⟨rfl, k3⟩
    have HK3 := hid (HK2.out.trans k3)
    clear k3 HK2
    go_wp2_with fail
    refine (hG w3).mono ?_; rintro e w4 ⟨u1, u2, rfl, m1, m2, k4⟩
    obtain ⟨f1, f2, f3, rfl⟩ := m1.shape
    obtain ⟨f4, f5, f6, rfl⟩ := m2.shape
    have l5 := Lc.new w4 n s ep (.slice f1 f2 f3) (.slice f4 f5 f6) 29
    have k5 : Kp w4 (w4.alloc (.cells #[.int .i64 n, .int .i64 s, .int .i64 ep, .slice f1 f2 f3, .slice f4 f5 f6] 29)) := (Kp.refl w4).alloc _
    obtain ⟨w5, hw5⟩ : ∃ V, V = w4.alloc (.cells #[.int .i64 n, .int .i64 s, .int .i64 ep, .slice f1 f2 f3, .slice f4 f5 f6] 29) := ⟨_, rfl⟩
    have HW5 := hid hw5
    rw [← hw5] at l5 k5
    obtain ⟨C, hC⟩ : ∃ C, C = w4.heap.size := ⟨_, rfl⟩
    rw [← hC] at l5
    have hC2 := hC.symm
    have HL5 := hid l5
    have HK5 := hid ((HK3.out.trans k4).trans k5)
    have HM5 := hid (And.intro (m1.kept k5) (m2.kept k5))
    obtain ⟨cc, w6, hcv, hcc, k6, B6⟩ := bytes_of w5 PS
    rw [hz] at hcv hcc B6
    have hcv2 : (convert 9 48 (.string PS)).run Try.prog (w4.alloc (.cells #[.int .i64 n, .int .i64 s, .int .i64 ep, .slice f1 f2 f3, .slice f4 f5 f6] 29)) = .ok (.slice (some ⟨w5.heap.size, 0, none⟩) 64 cc) w6 := by rw [← HW5.out]; exact hcv
    obtain ⟨B, hB⟩ : ∃ B, B = w5.heap.size := ⟨_, rfl⟩
    rw [← hB] at hcv2 B6
    have HK6 := hid (HK5.out.trans k6)
    have s0 := HK6.out.held HR0.out
    have s1 := HK6.out.held HR1.out
    have hRB : w.heap.size + 1 < B := by rw [hB]; exact World.block_lt_of_cell? _ _ (HK5.out.held HR0.out)
    have hRB2 : w.heap.size + 1 ≠ B := by omega
    have hRB3 : B ≠ w.heap.size + 1 := by omega
    have x6 := B6.cell J (by omega)
    have y6 := B6.free J (by omega)
    have hx6 : bf PS J = x0 := by rw [HBf.out J hJ, HX0.out]
    rw [hx6] at x6
    have HB6 := hid B6
    have HB := hid hB
    have HL6 := hid (HL5.out.kept k6)
    have HM6 := hid (And.intro (HM5.out.1.kept k6) (HM5.out.2.kept k6))
    have HCB : Hid (C ≠ B) := by have h1 : C < w5.heap.size := World.block_lt_of_cell? _ _ l5.c0; show C ≠ B; omega
    have HAB : Hid (A + 1 ≠ B) := by have h1 : A + 1 < w5.heap.size := World.block_lt_of_cell? _ _ (HQ2.out.kept HK5.out).c0; show A + 1 ≠ B; omega
    have HWB : Hid (W1.heap.size ≤ B) := by have h1 := HK5.out.size; show W1.heap.size ≤ B; omega
    have HTL : Hid (∀ V, Trd B w6 V → Nl V (.slice f1 f2 f3) S ∧ Nl V (.slice f4 f5 f6) M) := fun V t => ⟨t.nl k6 (m1.kept k5) hB, t.nl k6 (m2.kept k5) hB⟩
    clear hC hw5 l5 hG HK3 k4 k5 m1 m2 hcv hx6 B6 hB k6 HL5 HM5 HK5
    go_wp2_with fail
    clear hcv2 HW5
    go_cut [11] (fun p wx => p = .slice (some ⟨B, 0, none⟩) 64 cc ∧ Hid (Byt wx B 64 (fun i => if i = J then F J ^^^ b else F i)) ∧ Hid (Trd B w6 wx))
    case first =>
      go_region
      all_goals (go_wp2_with fail; go_meet)
      all_goals (
        refine ⟨rfl, ?_, ((Trd.refl B w6).setCell J _).drew⟩
        refine ((HB6.out.set J y).kept (Kp.refl _).drew (by rw [World.size_setCell]; exact HB6.out.lt (by omega))).congr (fun i hi => ?_)
        by_cases e : i = J
        · rw [if_pos e, if_pos e, HY.out]
        · rw [if_neg e, if_neg e, HBf.out i hi])
    obtain ⟨rfl, HB7, HT7⟩ := hcut
    obtain ⟨w7, hw7⟩ : ∃ V, V = wc := ⟨_, rfl⟩
    rw [← hw7] at HB7 HT7 ⊢
    have hcv := HB7.out.text 64 cc (by omega)
    obtain ⟨c0, c1, c2, c3, c4⟩ := HT7.out.lc HCB.out HL6.out
    have HL7 := hid (HT7.out.lc HCB.out HL6.out)
    have HL8 := hid (HT7.out.lc HAB.out (HQ2.out.kept HK6.out))
    have HK7 := hid (HT7.out.kp W1 HK6.out HWB.out)
    have s0' := HT7.out.held hRB2 s0
    have s1' := HT7.out.held hRB2 s1
    have HM7 := hid (HTL.out w7 HT7.out)
    rw [← HTS.out] at hcv
    clear hw7 s0 s1 x6 y6 HB7
    go_wp2_with fail
    refine (hG2 w7).mono ?_; rintro e w8 ⟨u1, u2, rfl, m1, m2, k8⟩
    obtain ⟨f7, f8, f9, rfl⟩ := m1.shape
    obtain ⟨g7, g8, g9, rfl⟩ := m2.shape
    have k9 : Kp w8 (w8.alloc (.cells #[.int .i64 gn, .int .i64 gs, .int .i64 ge, .slice f7 f8 f9, .slice g7 g8 g9] 29)) := (Kp.refl w8).alloc _
    have HK9 := hid ((HK7.out.trans k8).trans k9)
    have HL9 := (HL7.out.kept k8).kept k9
    have HL10 := (HL8.out.kept k8).kept k9
    have hS9 := hS1 _ HK9.out _ _ ((HM7.out.1.kept k8).kept k9) ((HM7.out.2.kept k8).kept k9)
    have s1'' := (k8.trans k9).held s1'
    obtain ⟨w9, hw9⟩ : ∃ V, V = w8.alloc (.cells #[.int .i64 gn, .int .i64 gs, .int .i64 ge, .slice f7 f8 f9, .slice g7 g8 g9] 29) := ⟨_, rfl⟩
    have HW9 := hid hw9
    rw [← hw9] at HK9 HL9 HL10 hS9 s1''
    obtain ⟨d0, d1, d2, d3, d4⟩ := (HL7.out.kept k8)
    obtain ⟨e0, e1, e2, e3, e4⟩ := (HL8.out.kept k8)
    have hl8a : C < w8.heap.size := World.block_lt_of_cell? _ _ d0
    have hl8b : A + 1 < w8.heap.size := World.block_lt_of_cell? _ _ e0
    have s8 := k8.held s1'
    have hl8c : w.heap.size + 1 < w8.heap.size := World.block_lt_of_cell? _ _ s8
    clear hG2 hw9 c0 c1 c2 c3 c4 HL7 HL8 k8 k9 m1 m2 s0' s1' hS1 hcv HL9 HL10
    go_wp2_with fail
    rw [← HW9.out]
    refine hS9.mono ?_; rintro e w10 ⟨rfl, k10⟩
    have KF := hid (KW1.out.trans (HK9.out.trans k10))
    have s10 := k10.held s1''
    clear hS9 d0 d1 d2 d3 d4 e0 e1 e2 e3 e4 s8 s1'' k10 HW9
    go_wp2
    go_ret
    exact ⟨rfl, KF.out⟩
theorem walk (w : World) (a0 : RL) (a1 b1 : Nat) (w0 : ROk w a0) (w1 : a1 < 256) (x1 : b1 < 256) :
    Calls Try.prog 7 #[rV a0, .agg #[.int .u8 (a1 : Int), .int .u8 (b1 : Int)]] w fun e w' => e = .returned (.bool true) ∧ Kp w w' := by
  exact walkN w a0.n a0.s a0.ep a0.sv a0.mv a0.sts a0.mks w0.h1 w0.h2 a1 b1 w1 x1

set_option maxRecDepth 100000 in
theorem lifted (os : Os) (started : os.Started) (H : Type) (enc : TypeId × Value → H) :
    ReturnsInHanded {} Try.checked os 7 .any (Rows.labelBackSpec.pre6 enc Try.prog Try.f7 Rows.labelBackRow.domain false) (Rows.labelBackSpec.post enc Try.prog Try.f7 false true false false) := by
  refine returnsInHanded_of_change (C := Try.checked) own started (by kernel_rfl) Try.func7
    (ChangeSpec.witness6 (enc := enc) (C := Try.checked) false ⟨#[], #[.agg #[.int .i64 0, .int .i64 0, .int .i64 0, .slice none 0 0, .slice none 0 0], .agg #[.int .u8 0, .int .u8 0]], []⟩ 8 (by kernel_rfl) (by kernel_rfl) (by kernel_rfl) (by kernel_rfl)) ?_
  intro W base args ds gs before hval0 hW hcnd _
  have hval : ∀ (j : Nat) t v, Try.f7.params[j]? = some t → args[j]? = some v → Value.okWide Try.prog W .any base t v := hval0
  have hW' := hW
  have hlt := hW.lt
  obtain ⟨p, q, hA0, hV, rfl, hfz, hnd⟩ := hW
  have hA : DataW.TrodAll enc Try.prog W 0 (fun _ => true) true Try.f7.params.toList args.toList ds p := hA0
  have hAk := hA
  rw [Try.params7] at hA hval
  obtain ⟨v0, vs0, d0, ds0, p0, q0, hargs, rfl, rfl, h0, r0⟩ := trodAll_cons hA
  obtain ⟨v1, vs1, d1, ds1, p1, q1, rfl, rfl, rfl, h1, r1⟩ := trodAll_cons r0
  obtain ⟨rfl, rfl, rfl⟩ := trodAll_nil r1
  obtain rfl : args = #[v0, v1] := by cases args; simp_all
  obtain ⟨rfl, rfl⟩ := trodVars_none hV
  obtain ⟨a0, rfl, w0⟩ := open_raw (hval 0 24 v0 rfl rfl) h0
  obtain ⟨a1, b1, rfl, w1, x1⟩ := open_u8two Try.underlying47 Try.underlying5 cellsB cellsU2 (hval 1 47 v1 rfl rfl) h1
  clear hA0 hval0
  simp only [List.append_nil] at hW' hAk hlt
  refine (walk W a0 a1 b1 w0 w1 x1).mono fun e W' ⟨he, hg⟩ => ?_
  subst he
  exact ⟨_, rfl, post_kp (pv := []) hW' (fun _ _ _ => (trodAll_cons_mk (shut_bool Try.underlying4 _) trodAll_mk0)) (fun sp hsp => trodAll_stays laidOut (by rw [Try.params7]; exact of_decide_eq_true (by kernel_rfl)) hAk (fun x hx => Below.same hg (hlt x hx)) hsp) (fun _ _ => rfl) (by simp) hg⟩

theorem over : Rows.labelBackRow.holds Try.pinned (OpenSpec.ofChange Rows.labelBackSpec) :=
  OpenClaim.holds_of_wide 7 Try.f7 rfl rfl rfl rfl rfl rfl rfl ⟨rfl, rfl, rfl, rfl, rfl⟩ rfl rfl rfl rfl rfl (by kernel_rfl) Try.func7 (by kernel_rfl)
    (of_decide_eq_true (by kernel_rfl)) (by unfold Func.isWrapper; first | (rw [if_pos (by decide +kernel)]; kernel_rfl) | (rw [if_neg (by decide +kernel)]; exact ⟨rfl, rfl⟩))
    (fun os started H enc _ => lifted os started H enc)

end Go.Proofs.Ytobpgfnmhpgkeaa.labelBack
namespace Go.Proofs.Ytobpgfnmhpgkeaa
theorem labelBack_holds : Rows.LabelBackSaid := labelBack.over
end Go.Proofs.Ytobpgfnmhpgkeaa
