/-
  For every text, every label as plain data and every two bytes the law function LabelGets returns true (Go: trunnionlaw12.LabelGets). No condition.
-/
import Derived.Test.YtobpgfnmhpgkeaaRows
import Derived.Test.YtobpgfnmhpgkeaaBufArgs
import Derived.Test.YtobpgfnmhpgkeaaLbLabels
import Derived.Test.YtobpgfnmhpgkeaaLbAsk
import Derived.Test.YtobpgfnmhpgkeaaLbWakes
import Derived.Test.YtobpgfnmhpgkeaaLbArgs
import Derived.Test.YtobpgfnmhpgkeaaLbTurn
import Derived.Test.YtobpgfnmhpgkeaaLbRGet
import Derived.WalkKit
import Derived.ProofKit
import Derived.OpenShut
import Derived.ShutString
import Derived.Deep.QuietTactic
import Derived.BigQuiet
import Derived.Deep.RegionWith
import Derived.Deep.RegionHeld3
import Derived.Deep.DeepCutAuto
import Derived.Deep.CutBlock
namespace Go.Proofs.Ytobpgfnmhpgkeaa.labelGets
open Go.ChangeShapes Go.WideShapes Go.ChangeAt Go.RowKit
open Go.ChangeMaps (open_string shut_string)
open Go.Proofs.Ytobpgfnmhpgkeaa Plain
set_option linter.unusedVariables false

theorem own : ownKnob Try.prog.godebug = none := by kernel_rfl
theorem laidOut : laidOutB Try.prog = true := by kernel_rfl
theorem cellsB : Try.prog.cellsOf 5 = 1 := by kernel_rfl
theorem cellsU2 : Try.prog.cellsOf 47 = 2 := by kernel_rfl
set_option maxRecDepth 100000 in
set_option maxHeartbeats 8000000 in
theorem walkN (w : World) (n s ep : Int) (rs rm : Value) (sts mks : List Int) (h1 : Nl w rs sts) (h2 : Nl w rm mks) (s0 : ByteArray) (hs0 : s0.size ≤ 9223372036854775807) (a b : Nat) (ha : a < 256) (hb : b < 256) :
    Calls Try.prog 4 #[.string s0, lV n s ep rs rm, .agg #[.int .u8 (a : Int), .int .u8 (b : Int)]] w fun e w' => e = .returned (.bool true) ∧ Kp w w' := by
  obtain ⟨ra, rn, rc, rfl⟩ := h1.shape
  obtain ⟨rb, rm', rd, rfl⟩ := h2.shape
  have hLb := fun w' (k : Kp w w') => labels_any n s ep _ _ sts mks w' (h1.kept k) (h2.kept k)
  unfold lV at hLb ⊢
  clear h1 h2
  go_enter Try.func4, Try.ntmps4
  go_wp2_with fail
  refine (hLb _ (((Kp.refl w).alloc _).alloc _)).mono ?_; rintro e w1 ⟨sv1, mv1, sv2, mv2, rfl, ⟨n1, n2⟩, ⟨n3, n4⟩, k1⟩
  obtain ⟨x1, y1, z1, rfl⟩ := n1.shape
  obtain ⟨x2, y2, z2, rfl⟩ := n2.shape
  obtain ⟨x3, y3, z3, rfl⟩ := n3.shape
  obtain ⟨x4, y4, z4, rfl⟩ := n4.shape
  obtain ⟨S, hS⟩ : ∃ S, S = sts.take 40 := ⟨_, rfl⟩
  obtain ⟨M, hM⟩ : ∃ M, M = mks.take 40 := ⟨_, rfl⟩
  rw [← hS] at n1 n3
  rw [← hM] at n2 n4
  have K1 : Hid (Kp w w1) := Kp.trans (((Kp.refl w).alloc _).alloc _) k1
  have v0 : w1.cell? ⟨w.heap.size + 1, 0, none⟩ = some (.int .u8 (a : Int)) := k1.held (by rw [World.cell?_alloc_at _ _ _ _ (by simp)]; rfl)
  have v1 : w1.cell? ⟨w.heap.size + 1, 1, none⟩ = some (.int .u8 (b : Int)) := k1.held (by rw [World.cell?_alloc_at _ _ _ _ (by simp)]; rfl)
  have q1 := (Lc.new w1 n s ep (.slice x1 y1 z1) (.slice x2 y2 z2) 29).kept ((Kp.refl _).alloc (.cells #[.int .i64 n, .int .i64 s, .int .i64 ep, .slice x3 y3 z3, .slice x4 y4 z4] 32))
  have q2 := Lc.new (w1.alloc (.cells #[.int .i64 n, .int .i64 s, .int .i64 ep, .slice x1 y1 z1, .slice x2 y2 z2] 29)) n s ep (.slice x3 y3 z3) (.slice x4 y4 z4) 32
  rw [asz] at q2
  have kW : Kp w1 ((w1.alloc (.cells #[.int .i64 n, .int .i64 s, .int .i64 ep, .slice x1 y1 z1, .slice x2 y2 z2] 29)).alloc (.cells #[.int .i64 n, .int .i64 s, .int .i64 ep, .slice x3 y3 z3, .slice x4 y4 z4] 32)) := ((Kp.refl w1).alloc _).alloc _
  obtain ⟨W1, hW1⟩ : ∃ W, W = (w1.alloc (.cells #[.int .i64 n, .int .i64 s, .int .i64 ep, .slice x1 y1 z1, .slice x2 y2 z2] 29)).alloc (.cells #[.int .i64 n, .int .i64 s, .int .i64 ep, .slice x3 y3 z3, .slice x4 y4 z4] 32) := ⟨_, rfl⟩
  have HW1 := hid hW1
  rw [← hW1] at q1 q2 kW
  have hN := fun V (k : Kp W1 V) => And.intro (And.intro (n1.kept (kW.trans k)) (n2.kept (kW.trans k))) (And.intro (n3.kept (kW.trans k)) (n4.kept (kW.trans k)))
  have KW1 : Hid (Kp w W1) := K1.out.trans kW
  have r0 := kW.held v0
  have r1 := kW.held v1
  clear v0 v1 hW1 hS hM hLb k1 n1 n2 n3 n4 kW K1
  obtain ⟨A, hA⟩ : ∃ A, A = w1.heap.size := ⟨_, rfl⟩
  rw [← hA] at q1 q2
  have hA2 := hA.symm
  have hp1 := rput_any ⟨n, s, ep, S, M⟩ _ _ W1 (hN _ (Kp.refl W1)).2.1 (hN _ (Kp.refl W1)).2.2
  have hE1 : lg ⟨n, s, ep, S, M⟩ = true → puS ⟨n, s, ep, S, M⟩ = ptS ⟨n, s, ep, S, M⟩ ∧ puE ⟨n, s, ep, S, M⟩ = 0 := fun h => ⟨if_pos h, if_pos h⟩
  have hE2 : lg ⟨n, s, ep, S, M⟩ = false → puS ⟨n, s, ep, S, M⟩ = noS ∧ puE ⟨n, s, ep, S, M⟩ = 4 := fun h => ⟨if_neg (by rw [h]; simp), if_neg (by rw [h]; simp)⟩
  simp only at hp1
  unfold lV at hp1
  have HR0 := hid r0
  have HR1 := hid r1
  obtain ⟨b0, b1, b2, b3, b4⟩ := q2
  clear hA hN q1 r0 r1
  cases e1 : lg ⟨n, s, ep, S, M⟩ with
  | false =>
    obtain ⟨z1, z2⟩ := hE2 e1
    rw [z1, z2] at hp1
    unfold noS at hp1
    have HTSz : Hid ((⟨#[]⟩ : ByteArray).size ≤ 9223372036854775807) := by show (0 : Nat) ≤ _; omega
    clear z1 z2 hE1 hE2 e1
    go_wp2_with fail
    rw [← HW1.out]
    clear HW1 hA2
    refine hp1.mono ?_; rintro e w2 ⟨rfl, k2⟩
    have HK2 := hid k2
    clear hp1 b0 b1 b2 b3 b4 k2
    obtain ⟨W8, hW8⟩ : ∃ W, W = w2.alloc (.cells #[.string s0, .string ⟨#[]⟩] 9) := ⟨_, rfl⟩
    have HW8 := hid hW8
    have HC8 : Hid (∀ k : Nat, k < 2 → ∃ y : ByteArray, y.size ≤ 9223372036854775807 ∧ W8.cell? ⟨w2.heap.size, k, none⟩ = some (.string y)) := fun k hk => by
      have h : k = 0 ∨ k = 1 := by omega
      rcases h with rfl | rfl
      · exact ⟨s0, hs0, by rw [hW8, World.cell?_alloc_at _ _ _ _ rfl]; rfl⟩
      · exact ⟨⟨#[]⟩, HTSz.out, by rw [hW8, World.cell?_alloc_at _ _ _ _ rfl]; rfl⟩
    have KW8 : Hid (Kp w W8) := by rw [hW8]; exact Kp.alloc (KW1.out.trans HK2.out) _
    clear hW8
    go_wp2
    rw [← HW8.out]
    clear HW8
    go_loopw [48] (fun i wr => ∃ k : Nat, k ≤ 2 ∧ i = .int .i64 k ∧ Hid (Kp W8 wr)) (fun i _ => 2 - (intOf i).toNat)
    case atStart => exact ⟨0, by omega, rfl, Kp.refl W8⟩
    case round =>
      obtain ⟨k, hk, rfl, HK⟩ := hrel
      by_cases hlt : k < 2
      · have hdk : decide ((k : Int) < 2) = true := decide_eq_true (by omega)
        obtain ⟨y, hy, hcell⟩ := HC8.out k hlt
        have c0 := HK.out.held hcell
        have h1 := get_any y hy wr
        have h2 := fun w' => rget_any y hy w'
        obtain ⟨GE, eGE⟩ : ∃ x, x = gtE y := ⟨_, rfl⟩
        obtain ⟨GL', eGL⟩ : ∃ x, x = gtL y := ⟨_, rfl⟩
        rw [← eGE, ← eGL] at h1 h2
        have h3 := same_any GL'
        obtain ⟨gn, gs, ge, gst, gmk⟩ := GL'
        simp only at h1 h2 h3
        unfold lV at h1 h2 h3
        clear eGE eGL hcell hy
        go_wp2_with fail
        refine h1.mono ?_; rintro e w2 ⟨u1, u2, rfl, m1, m2, k2⟩
        obtain ⟨f1, f2, f3, rfl⟩ := m1.shape
        obtain ⟨f4, f5, f6, rfl⟩ := m2.shape
        have l2 := Lc.new w2 gn gs ge (.slice f1 f2 f3) (.slice f4 f5 f6) 29
        have k3 : Kp w2 (w2.alloc (.cells #[.int .i64 gn, .int .i64 gs, .int .i64 ge, .slice f1 f2 f3, .slice f4 f5 f6] 29)) := (Kp.refl w2).alloc _
        obtain ⟨w3, hw3⟩ : ∃ V, V = w2.alloc (.cells #[.int .i64 gn, .int .i64 gs, .int .i64 ge, .slice f1 f2 f3, .slice f4 f5 f6] 29) := ⟨_, rfl⟩
        have HW3 := hid hw3
        rw [← hw3] at l2 k3
        obtain ⟨C, hC⟩ : ∃ C, C = w2.heap.size := ⟨_, rfl⟩
        rw [← hC] at l2
        have hC2 := hC.symm
        have HL3 := hid l2
        have HM3 := hid (And.intro (m1.kept k3) (m2.kept k3))
        have HK3 := hid ((HK.out.trans k2).trans k3)
        clear h1 c0 l2 hw3 hC m1 m2 k2 k3 HK
        go_wp2_with fail
        rw [← HW3.out]
        refine (h2 w3).mono ?_; rintro e w4 ⟨u1, u2, rfl, m1, m2, k4⟩
        obtain ⟨f7, f8, f9, rfl⟩ := m1.shape
        obtain ⟨g7, g8, g9, rfl⟩ := m2.shape
        have k5 : Kp w4 (w4.alloc (.cells #[.int .i64 gn, .int .i64 gs, .int .i64 ge, .slice f7 f8 f9, .slice g7 g8 g9] 32)) := (Kp.refl w4).alloc _
        have hS := h3 _ _ _ _ _ ((HM3.out.1.kept k4).kept k5) ((HM3.out.2.kept k4).kept k5) (m1.kept k5) (m2.kept k5)
        obtain ⟨d0, d1, d2, d3, d4⟩ := HL3.out.kept k4
        have hlC : C < w4.heap.size := World.block_lt_of_cell? _ _ d0
        have HK5 := hid ((HK3.out.trans k4).trans k5)
        clear h2 h3 HW3 hC2 k4 k5 m1 m2 HL3 HM3 HK3
        go_wp2_with fail
        refine hS.mono ?_; rintro e w6 ⟨rfl, k6⟩
        have HK6 := hid (HK5.out.trans k6)
        clear hS d0 d1 d2 d3 d4 HK5 k6
        go_wp2
        go_roundw
        case rel => exact ⟨k + 1, by omega, by go_num, HK6⟩
        case measure => simp [intOf]; omega
      · obtain rfl : 2 = k := by omega
        go_wp2_with fail
        refine (wakes_any wr).mono ?_; rintro e w9 ⟨rfl, k9⟩
        have KF := hid (KW8.out.trans (HK.out.trans k9))
        go_wp2
        go_ret
        exact ⟨rfl, KF.out⟩
  | true =>
    obtain ⟨z1, z2⟩ := hE1 e1
    rw [z1, z2] at hp1
    have hz := ptS_size ⟨n, s, ep, S, M⟩
    have HBf : Hid (∀ i, i < 64 → bf (ptS ⟨n, s, ep, S, M⟩) i = sb ⟨n, s, ep, S, M⟩ i) := fun i hi => ptS_at (lg_gl e1) i hi
    have HSb := hid (sb_lt (lg_gl e1) (a % 64))
    obtain ⟨PS, ePS⟩ : ∃ x, x = ptS ⟨n, s, ep, S, M⟩ := ⟨_, rfl⟩
    rw [← ePS] at hp1 hz HBf
    have hne : (PS.toList == []) = false := by
      rw [beq_eq_false_iff_ne]
      intro h
      have h2 := congrArg List.length h
      rw [ByteArray.toList_eq] at h2
      simp at h2
      have h3 : PS.size = 0 := by rw [ByteArray.size, h2]; rfl
      omega
    have hl6 := low6 a ha
    obtain ⟨J, eJ⟩ : ∃ J, J = a % 64 := ⟨_, rfl⟩
    have hJ : J < 64 := by omega
    rw [← eJ] at hl6 HSb
    obtain ⟨F, eF⟩ : ∃ F, F = sb ⟨n, s, ep, S, M⟩ := ⟨_, rfl⟩
    rw [← eF] at HSb HBf
    obtain ⟨TS, eTS⟩ : ∃ T, T = bs 64 (fun i => if i = J then F J ^^^ b else F i) := ⟨_, rfl⟩
    have HTS := hid eTS
    have HTSz : Hid (TS.size ≤ 9223372036854775807) := by show TS.size ≤ _; rw [eTS, bs_size]; omega
    have HFx := HSb.out
    have ht8 := turn8 (F J) b HFx hb
    obtain ⟨y, ey⟩ : ∃ y, y = F J ^^^ b := ⟨_, rfl⟩
    obtain ⟨x0, ex0⟩ : ∃ x, x = F J := ⟨_, rfl⟩
    have HX0 := hid ex0
    have HY := hid ey
    rw [← ex0] at ht8 HFx ey
    rw [← ey] at ht8
    clear z1 z2 hE1 hE2 e1 ePS eJ eF eTS HSb ey ex0
    go_wp2_with fail
    rw [← HW1.out]
    clear HW1 hA2
    refine hp1.mono ?_; rintro e w5 ⟨rfl, k5⟩
    have HK5 := hid k5
    obtain ⟨cc, w6, hcv, hcc, k6, B6⟩ := bytes_of w5 PS
    rw [hz] at hcv hcc B6
    obtain ⟨B, hB⟩ : ∃ B, B = w5.heap.size := ⟨_, rfl⟩
    rw [← hB] at hcv B6
    have HK6 := hid (HK5.out.trans k6)
    have s0' := HK6.out.held HR0.out
    have s1' := HK6.out.held HR1.out
    have hRB : w.heap.size + 1 < B := by rw [hB]; exact World.block_lt_of_cell? _ _ (HK5.out.held HR0.out)
    have hRB2 : w.heap.size + 1 ≠ B := by omega
    have hRB3 : B ≠ w.heap.size + 1 := by omega
    have x6 := B6.cell J (by omega)
    have y6 := B6.free J (by omega)
    have hx6 : bf PS J = x0 := by rw [HBf.out J hJ, HX0.out]
    rw [hx6] at x6
    have HB6 := hid B6
    have HWB : Hid (W1.heap.size ≤ B) := by have h1 := HK5.out.size; show W1.heap.size ≤ B; omega
    clear hp1 b0 b1 b2 b3 b4 k5 hx6 B6 hB k6 HK5
    go_wp2_with fail
    clear hcv
    go_cut [11] (fun p wx => p = .slice (some ⟨B, 0, none⟩) 64 cc ∧ Hid (Byt wx B 64 (fun i => if i = J then F J ^^^ b else F i)) ∧ Hid (Trd B w6 wx))
    case first =>
      go_region
      all_goals (go_wp2_with fail; go_meet)
      all_goals (
        refine ⟨rfl, ?_, ((Trd.refl B w6).setCell J _).drew⟩
        refine ((HB6.out.set J y).kept (Kp.refl _).drew (by rw [World.size_setCell]; exact HB6.out.lt (by omega))).congr (fun i hi => ?_)
        by_cases e : i = J
        · rw [if_pos e, if_pos e, HY.out]
        · rw [if_neg e, if_neg e, HBf.out i hi])
    obtain ⟨rfl, HB7, HT7⟩ := hcut
    obtain ⟨w7, hw7⟩ : ∃ V, V = wc := ⟨_, rfl⟩
    rw [← hw7] at HB7 HT7 ⊢
    have hcv := HB7.out.text 64 cc (by omega)
    rw [← HTS.out] at hcv
    have HK7 := hid (HT7.out.kp W1 HK6.out HWB.out)
    clear hw7 s0' s1' x6 y6 HB7 HT7
    obtain ⟨W8, hW8⟩ : ∃ W, W = w7.alloc (.cells #[.string s0, .string TS] 9) := ⟨_, rfl⟩
    have HW8 := hid hW8
    have HC8 : Hid (∀ k : Nat, k < 2 → ∃ y : ByteArray, y.size ≤ 9223372036854775807 ∧ W8.cell? ⟨w7.heap.size, k, none⟩ = some (.string y)) := fun k hk => by
      have h : k = 0 ∨ k = 1 := by omega
      rcases h with rfl | rfl
      · exact ⟨s0, hs0, by rw [hW8, World.cell?_alloc_at _ _ _ _ rfl]; rfl⟩
      · exact ⟨TS, HTSz.out, by rw [hW8, World.cell?_alloc_at _ _ _ _ rfl]; rfl⟩
    have KW8 : Hid (Kp w W8) := by rw [hW8]; exact Kp.alloc (KW1.out.trans HK7.out) _
    clear hW8
    go_wp2
    rw [← HW8.out]
    clear hcv
    clear HW8
    go_loopw [48] (fun i wr => ∃ k : Nat, k ≤ 2 ∧ i = .int .i64 k ∧ Hid (Kp W8 wr)) (fun i _ => 2 - (intOf i).toNat)
    case atStart => exact ⟨0, by omega, rfl, Kp.refl W8⟩
    case round =>
      obtain ⟨k, hk, rfl, HK⟩ := hrel
      by_cases hlt : k < 2
      · have hdk : decide ((k : Int) < 2) = true := decide_eq_true (by omega)
        obtain ⟨y, hy, hcell⟩ := HC8.out k hlt
        have c0 := HK.out.held hcell
        have h1 := get_any y hy wr
        have h2 := fun w' => rget_any y hy w'
        obtain ⟨GE, eGE⟩ : ∃ x, x = gtE y := ⟨_, rfl⟩
        obtain ⟨GL', eGL⟩ : ∃ x, x = gtL y := ⟨_, rfl⟩
        rw [← eGE, ← eGL] at h1 h2
        have h3 := same_any GL'
        obtain ⟨gn, gs, ge, gst, gmk⟩ := GL'
        simp only at h1 h2 h3
        unfold lV at h1 h2 h3
        clear eGE eGL hcell hy
        go_wp2_with fail
        refine h1.mono ?_; rintro e w2 ⟨u1, u2, rfl, m1, m2, k2⟩
        obtain ⟨f1, f2, f3, rfl⟩ := m1.shape
        obtain ⟨f4, f5, f6, rfl⟩ := m2.shape
        have l2 := Lc.new w2 gn gs ge (.slice f1 f2 f3) (.slice f4 f5 f6) 29
        have k3 : Kp w2 (w2.alloc (.cells #[.int .i64 gn, .int .i64 gs, .int .i64 ge, .slice f1 f2 f3, .slice f4 f5 f6] 29)) := (Kp.refl w2).alloc _
        obtain ⟨w3, hw3⟩ : ∃ V, V = w2.alloc (.cells #[.int .i64 gn, .int .i64 gs, .int .i64 ge, .slice f1 f2 f3, .slice f4 f5 f6] 29) := ⟨_, rfl⟩
        have HW3 := hid hw3
        rw [← hw3] at l2 k3
        obtain ⟨C, hC⟩ : ∃ C, C = w2.heap.size := ⟨_, rfl⟩
        rw [← hC] at l2
        have hC2 := hC.symm
        have HL3 := hid l2
        have HM3 := hid (And.intro (m1.kept k3) (m2.kept k3))
        have HK3 := hid ((HK.out.trans k2).trans k3)
        clear h1 c0 l2 hw3 hC m1 m2 k2 k3 HK
        go_wp2_with fail
        rw [← HW3.out]
        refine (h2 w3).mono ?_; rintro e w4 ⟨u1, u2, rfl, m1, m2, k4⟩
        obtain ⟨f7, f8, f9, rfl⟩ := m1.shape
        obtain ⟨g7, g8, g9, rfl⟩ := m2.shape
        have k5 : Kp w4 (w4.alloc (.cells #[.int .i64 gn, .int .i64 gs, .int .i64 ge, .slice f7 f8 f9, .slice g7 g8 g9] 32)) := (Kp.refl w4).alloc _
        have hS := h3 _ _ _ _ _ ((HM3.out.1.kept k4).kept k5) ((HM3.out.2.kept k4).kept k5) (m1.kept k5) (m2.kept k5)
        obtain ⟨d0, d1, d2, d3, d4⟩ := HL3.out.kept k4
        have hlC : C < w4.heap.size := World.block_lt_of_cell? _ _ d0
        have HK5 := hid ((HK3.out.trans k4).trans k5)
        clear h2 h3 HW3 hC2 k4 k5 m1 m2 HL3 HM3 HK3
        go_wp2_with fail
        refine hS.mono ?_; rintro e w6 ⟨rfl, k6⟩
        have HK6 := hid (HK5.out.trans k6)
        clear hS d0 d1 d2 d3 d4 HK5 k6
        go_wp2
        go_roundw
        case rel => exact ⟨k + 1, by omega, by go_num, HK6⟩
        case measure => simp [intOf]; omega
      · obtain rfl : 2 = k := by omega
        go_wp2_with fail
        refine (wakes_any wr).mono ?_; rintro e w9 ⟨rfl, k9⟩
        have KF := hid (KW8.out.trans (HK.out.trans k9))
        go_wp2
        go_ret
        exact ⟨rfl, KF.out⟩
theorem walk (w : World) (a0 : ByteArray) (a1 : RL) (a2 b2 : Nat) (w0 : a0.size ≤ maxLen) (w1 : ROk w a1) (w2 : a2 < 256) (x2 : b2 < 256) :
    Calls Try.prog 4 #[.string a0, rV a1, .agg #[.int .u8 (a2 : Int), .int .u8 (b2 : Int)]] w fun e w' => e = .returned (.bool true) ∧ Kp w w' := by
  exact walkN w a1.n a1.s a1.ep a1.sv a1.mv a1.sts a1.mks w1.h1 w1.h2 a0 (by unfold maxLen at w0; omega) a2 b2 w2 x2

set_option maxRecDepth 100000 in
theorem lifted (os : Os) (started : os.Started) (H : Type) (enc : TypeId × Value → H) :
    ReturnsInHanded {} Try.checked os 4 .any (Rows.labelGetsSpec.pre6 enc Try.prog Try.f4 Rows.labelGetsRow.domain false) (Rows.labelGetsSpec.post enc Try.prog Try.f4 false true false false) := by
  refine returnsInHanded_of_change (C := Try.checked) own started (by kernel_rfl) Try.func4
    (ChangeSpec.witness6 (enc := enc) (C := Try.checked) false ⟨#[], #[.string ByteArray.empty, .agg #[.int .i64 0, .int .i64 0, .int .i64 0, .slice none 0 0, .slice none 0 0], .agg #[.int .u8 0, .int .u8 0]], []⟩ 8 (by kernel_rfl) (by kernel_rfl) (by kernel_rfl) (by kernel_rfl)) ?_
  intro W base args ds gs before hval0 hW hcnd _
  have hval : ∀ (j : Nat) t v, Try.f4.params[j]? = some t → args[j]? = some v → Value.okWide Try.prog W .any base t v := hval0
  have hW' := hW
  have hlt := hW.lt
  obtain ⟨p, q, hA0, hV, rfl, hfz, hnd⟩ := hW
  have hA : DataW.TrodAll enc Try.prog W 0 (fun _ => true) true Try.f4.params.toList args.toList ds p := hA0
  have hAk := hA
  rw [Try.params4] at hA hval
  obtain ⟨v0, vs0, d0, ds0, p0, q0, hargs, rfl, rfl, h0, r0⟩ := trodAll_cons hA
  obtain ⟨v1, vs1, d1, ds1, p1, q1, rfl, rfl, rfl, h1, r1⟩ := trodAll_cons r0
  obtain ⟨v2, vs2, d2, ds2, p2, q2, rfl, rfl, rfl, h2, r2⟩ := trodAll_cons r1
  obtain ⟨rfl, rfl, rfl⟩ := trodAll_nil r2
  obtain rfl : args = #[v0, v1, v2] := by cases args; simp_all
  obtain ⟨rfl, rfl⟩ := trodVars_none hV
  obtain ⟨a0, rfl, rfl, rfl, w0⟩ := open_string Try.underlying9 (hval 0 9 v0 rfl rfl) h0
  obtain ⟨a1, rfl, w1⟩ := open_raw (hval 1 24 v1 rfl rfl) h1
  obtain ⟨a2, b2, rfl, w2, x2⟩ := open_u8two Try.underlying47 Try.underlying5 cellsB cellsU2 (hval 2 47 v2 rfl rfl) h2
  clear hA0 hval0
  simp only [List.append_nil] at hW' hAk hlt
  refine (walk W a0 a1 a2 b2 w0 w1 w2 x2).mono fun e W' ⟨he, hg⟩ => ?_
  subst he
  exact ⟨_, rfl, post_kp (pv := []) hW' (fun _ _ _ => (trodAll_cons_mk (shut_bool Try.underlying4 _) trodAll_mk0)) (fun sp hsp => trodAll_stays laidOut (by rw [Try.params4]; exact of_decide_eq_true (by kernel_rfl)) hAk (fun x hx => Below.same hg (hlt x hx)) hsp) (fun _ _ => rfl) (by simp) hg⟩

theorem over : Rows.labelGetsRow.holds Try.pinned (OpenSpec.ofChange Rows.labelGetsSpec) :=
  OpenClaim.holds_of_wide 4 Try.f4 rfl rfl rfl rfl rfl rfl rfl ⟨rfl, rfl, rfl, rfl, rfl⟩ rfl rfl rfl rfl rfl (by kernel_rfl) Try.func4 (by kernel_rfl)
    (of_decide_eq_true (by kernel_rfl)) (by unfold Func.isWrapper; first | (rw [if_pos (by decide +kernel)]; kernel_rfl) | (rw [if_neg (by decide +kernel)]; exact ⟨rfl, rfl⟩))
    (fun os started H enc _ => lifted os started H enc)

end Go.Proofs.Ytobpgfnmhpgkeaa.labelGets
namespace Go.Proofs.Ytobpgfnmhpgkeaa
theorem labelGets_holds : Rows.LabelGetsSaid := labelGets.over
end Go.Proofs.Ytobpgfnmhpgkeaa
