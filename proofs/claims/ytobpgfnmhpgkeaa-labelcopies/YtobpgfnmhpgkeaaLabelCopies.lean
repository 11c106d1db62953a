/-
  For every label as plain data and every number the law function LabelCopies returns true (Go: trunnionlaw12.LabelCopies). No condition.
-/
import Derived.Test.YtobpgfnmhpgkeaaRows
import Derived.Test.YtobpgfnmhpgkeaaBufArgs
import Derived.Test.YtobpgfnmhpgkeaaLbLabels
import Derived.Test.YtobpgfnmhpgkeaaLbAsk
import Derived.Test.YtobpgfnmhpgkeaaLbWakes
import Derived.Test.YtobpgfnmhpgkeaaLbArgs
import Derived.Test.YtobpgfnmhpgkeaaLbCopy
import Derived.WalkKit
import Derived.ProofKit
import Derived.OpenShut
import Derived.ShutString
import Derived.Deep.QuietTactic
import Derived.BigQuiet
import Derived.Deep.RegionWith
import Derived.Deep.RegionHeld3
import Derived.Deep.DeepCutAuto
import Derived.Deep.CutBlock
namespace Go.Proofs.Ytobpgfnmhpgkeaa.labelCopies
open Go.ChangeShapes Go.WideShapes Go.ChangeAt Go.RowKit
open Go.ChangeMaps (open_string shut_string)
open Go.Proofs.Ytobpgfnmhpgkeaa Plain
set_option linter.unusedVariables false

theorem own : ownKnob Try.prog.godebug = none := by kernel_rfl
theorem laidOut : laidOutB Try.prog = true := by kernel_rfl
/-- what stays while the copy's lists are turned. -/
structure Cz (w2 : World) (C base : Nat) (n s ep : Int) (u1 u2 : Value) (N1 N2 : Nat) (wr : World) : Prop where
  k : Kp w2 wr
  lc : Lc wr C n s ep u1 u2
  f1 : ∃ f, Fe 67 wr base u1 N1 f
  f2 : ∃ f, Fe 3 wr base u2 N2 f
set_option maxRecDepth 100000 in
set_option maxHeartbeats 8000000 in
theorem walkN (w : World) (n s ep : Int) (rs rm : Value) (sts mks : List Int) (h1 : Nl w rs sts) (h2 : Nl w rm mks) (by_ : Int) :
    Calls Try.prog 8 #[lV n s ep rs rm, .int .i64 by_] w fun e w' => e = .returned (.bool true) ∧ Kp w w' := by
  obtain ⟨ra, rn, rc, rfl⟩ := h1.shape
  obtain ⟨rb, rm', rd, rfl⟩ := h2.shape
  have hLb := fun w' (k : Kp w w') => labels_any n s ep _ _ sts mks w' (h1.kept k) (h2.kept k)
  unfold lV at hLb ⊢
  clear h1 h2
  go_enter Try.func8, Try.ntmps8
  go_wp2_with fail
  refine (hLb _ ((Kp.refl w).alloc _)).mono ?_; rintro e w1 ⟨sv1, mv1, sv2, mv2, rfl, ⟨n1, n2⟩, ⟨n3, n4⟩, k1⟩
  obtain ⟨x1, y1, z1, rfl⟩ := n1.shape
  obtain ⟨x2, y2, z2, rfl⟩ := n2.shape
  obtain ⟨x3, y3, z3, rfl⟩ := n3.shape
  obtain ⟨x4, y4, z4, rfl⟩ := n4.shape
  obtain ⟨S, hS⟩ : ∃ S, S = sts.take 40 := ⟨_, rfl⟩
  obtain ⟨M, hM⟩ : ∃ M, M = mks.take 40 := ⟨_, rfl⟩
  rw [← hS] at n1 n3
  rw [← hM] at n2 n4
  have K1 : Hid (Kp w w1) := Kp.trans ((Kp.refl w).alloc _) k1
  have hSl : S.length ≤ 40 := by rw [hS, List.length_take]; omega
  have hMl : M.length ≤ 40 := by rw [hM, List.length_take]; omega
  have q1 := (Lc.new w1 n s ep (.slice x1 y1 z1) (.slice x2 y2 z2) 29).kept ((Kp.refl _).alloc (.cells #[.int .i64 n, .int .i64 s, .int .i64 ep, .slice x3 y3 z3, .slice x4 y4 z4] 32))
  have q2 := Lc.new (w1.alloc (.cells #[.int .i64 n, .int .i64 s, .int .i64 ep, .slice x1 y1 z1, .slice x2 y2 z2] 29)) n s ep (.slice x3 y3 z3) (.slice x4 y4 z4) 32
  rw [asz] at q2
  have kW : Kp w1 ((w1.alloc (.cells #[.int .i64 n, .int .i64 s, .int .i64 ep, .slice x1 y1 z1, .slice x2 y2 z2] 29)).alloc (.cells #[.int .i64 n, .int .i64 s, .int .i64 ep, .slice x3 y3 z3, .slice x4 y4 z4] 32)) := ((Kp.refl w1).alloc _).alloc _
  obtain ⟨W1, hW1⟩ : ∃ W, W = (w1.alloc (.cells #[.int .i64 n, .int .i64 s, .int .i64 ep, .slice x1 y1 z1, .slice x2 y2 z2] 29)).alloc (.cells #[.int .i64 n, .int .i64 s, .int .i64 ep, .slice x3 y3 z3, .slice x4 y4 z4] 32) := ⟨_, rfl⟩
  have HW1 := hid hW1
  rw [← hW1] at q1 q2 kW
  have hN := fun V (k : Kp W1 V) => And.intro (And.intro (n1.kept (kW.trans k)) (n2.kept (kW.trans k))) (And.intro (n3.kept (kW.trans k)) (n4.kept (kW.trans k)))
  have KW1 : Hid (Kp w W1) := K1.out.trans kW
  clear hW1 hS hM hLb k1 n1 n2 n3 n4 kW K1
  obtain ⟨A, hA⟩ : ∃ A, A = w1.heap.size := ⟨_, rfl⟩
  rw [← hA] at q1 q2
  have hA2 := hA.symm
  have hCp := copy_any n s ep S M _ _ W1 (hN _ (Kp.refl W1)).1.1 (hN _ (Kp.refl W1)).1.2 (by omega) (by omega)
  have HN := hid hN
  unfold lV at hCp
  have HQ1 := hid q1
  have HQ2 := hid q2
  obtain ⟨a0, a1, a2, a3, a4⟩ := q1
  clear hA hN q2
  go_wp2_with fail
  rw [← HW1.out]
  clear HW1 hA2
  refine hCp.mono ?_; rintro e w2 ⟨u1, u2, rfl, o1, o2, hap, k2⟩
  have fe1 := o1.fe
  have fe2 := o2.fe
  have nn1 := o1.nums
  have nn2 := o2.nums
  obtain ⟨N1, hN1⟩ : ∃ N, N = S.length := ⟨_, rfl⟩
  obtain ⟨N2, hN2⟩ : ∃ N, N = M.length := ⟨_, rfl⟩
  rw [← hN1] at fe1
  rw [← hN2] at fe2
  obtain ⟨b1, c1, rfl, p1, p2, i1⟩ := fe1.shape
  obtain ⟨b2, c2, rfl, p3, p4, i2⟩ := fe2.shape
  obtain ⟨base, hbase⟩ : ∃ B, B = W1.heap.size := ⟨_, rfl⟩
  rw [← hbase] at fe1 fe2 i1 i2
  have i1 : 0 < N1 → ∃ g, b1 = some ⟨g, 0, none⟩ ∧ base ≤ g := fun h => by obtain ⟨g, h1, h2, _⟩ := i1 h; exact ⟨g, h1, h2⟩
  have i2 : 0 < N2 → ∃ g, b2 = some ⟨g, 0, none⟩ ∧ base ≤ g := fun h => by obtain ⟨g, h1, h2, _⟩ := i2 h; exact ⟨g, h1, h2⟩
  have k3 : Kp w2 (w2.alloc (.cells #[.int .i64 n, .int .i64 s, .int .i64 ep, .slice b1 N1 c1, .slice b2 N2 c2] 29)) := (Kp.refl w2).alloc _
  have l3 := Lc.new w2 n s ep (.slice b1 N1 c1) (.slice b2 N2 c2) 29
  obtain ⟨w3, hw3⟩ : ∃ V, V = w2.alloc (.cells #[.int .i64 n, .int .i64 s, .int .i64 ep, .slice b1 N1 c1, .slice b2 N2 c2] 29) := ⟨_, rfl⟩
  have HW3 := hid hw3
  rw [← hw3] at k3 l3
  obtain ⟨C, hC⟩ : ∃ C, C = w2.heap.size := ⟨_, rfl⟩
  rw [← hC] at l3
  have hC2 := hC.symm
  have HK3 := hid (k2.trans k3)
  have HL3 := hid l3
  have HF1 := hid (fe1.kept k3)
  have HF2 := hid (fe2.kept k3)
  have HApt1 : Hid (∀ g, (Value.slice b1 N1 c1).ownBlock = some g → (Value.slice b2 N2 c2).ownBlock ≠ some g) := hap
  have HApt2 : Hid (∀ g, (Value.slice b2 N2 c2).ownBlock = some g → (Value.slice b1 N1 c1).ownBlock ≠ some g) := fun g h1 h2 => hap g h2 h1
  have HCb : Hid (∀ g, ((Value.slice b1 N1 c1).ownBlock = some g ∨ (Value.slice b2 N2 c2).ownBlock = some g) → g < C) := fun g h => by
    rcases h with h | h
    · have := (World.ownsRow.lt fe1 g h).2; omega
    · have := (World.ownsRow.lt fe2 g h).2; omega
  have HBase : Hid (W1.heap.size ≤ base) := by rw [hbase]; exact Nat.le_refl _
  have HS := hid (fun V (k : Kp w3 V) => same_any ⟨n, s, ep, S, M⟩ _ _ _ _ V ((nn1.kept k3).kept k) ((nn2.kept k3).kept k) (HN.out V ((k2.trans k3).trans k)).2.1 (HN.out V ((k2.trans k3).trans k)).2.2)
  clear hw3 hC hCp a0 a1 a2 a3 a4 o1 o2 hap k2 k3 l3 fe1 fe2 nn1 nn2 hbase hN1 hN2
  go_wp2_with fail
  rw [← HW3.out]
  refine (wakes_any w3).mono ?_; rintro e w4 ⟨rfl, k4⟩
  have HK4 := hid k4
  have HL4 := hid (HL3.out.kept k4)
  obtain ⟨d0, d1, d2, d3, d4⟩ := HL4.out
  obtain ⟨e0, e1, e2, e3, e4⟩ := HQ2.out.kept (HK3.out.trans k4)
  have hS4 := HS.out _ k4
  unfold lV at hS4
  clear HW3 hC2 k4 HS HL3
  go_wp2_with fail
  refine hS4.mono ?_; rintro e w5 ⟨rfl, k5⟩
  have HL5 := hid (HL4.out.kept k5)
  have HC0 : Hid (Cz W1 C base n s ep (.slice b1 N1 c1) (.slice b2 N2 c2) N1 N2 w5) := ⟨(HK3.out.trans HK4.out).trans k5, HL5.out, ⟨_, HF1.out.kept (HK4.out.trans k5)⟩, ⟨_, HF2.out.kept (HK4.out.trans k5)⟩⟩
  clear hS4 d0 d1 d2 d3 d4 e0 e1 e2 e3 e4 k5 HL4 HF1 HF2 HK4 HK3
  obtain ⟨d0, d1, d2, d3, d4⟩ := HL5.out
  go_wp2
  clear d0 d1 d2 d3 d4
  go_loopw [28] (fun i wr => ∃ k : Nat, k ≤ N1 ∧ i = .int .i64 k ∧ Hid (Cz W1 C base n s ep (.slice b1 N1 c1) (.slice b2 N2 c2) N1 N2 wr)) (fun i _ => N1 - (intOf i).toNat)
  case atStart => exact ⟨0, Nat.zero_le _, rfl, HC0⟩
  case round =>
    clear HC0
    obtain ⟨k, hk, rfl, HC⟩ := hrel
    obtain ⟨d0, d1, d2, d3, d4⟩ := HC.out.lc
    by_cases hlt : k < N1
    · obtain ⟨g, rfl, hg⟩ := i1 (by omega)
      obtain ⟨f, hf⟩ := HC.out.f1
      have x0 := hf.at k hlt
      have z0 := hf.z k
      have HG : Hid (base ≤ g) := hg
      have HCne : Hid (C ≠ g) := by show C ≠ g; have := HCb.out g (Or.inl rfl); omega
      have HNE : Hid ((Value.slice b2 N2 c2).ownBlock ≠ some g) := HApt1.out g rfl
      have HF := hid hf
      obtain ⟨x, hx⟩ : ∃ x, x = f k := ⟨_, rfl⟩
      rw [← hx] at x0
      have hCg : C ≠ g := HCne.out
      have hCg2 : g ≠ C := fun e => hCg e.symm
      clear hx hf hg
      go_wp2
      go_roundw
      case rel =>
        have hf := HF.out
        have tr : Trd g wr (wr.setCell ⟨g, k, none⟩ (.int .i64 (bits .xor .i64 x by_))) := (Trd.refl g wr).setCell k _
        exact ⟨k + 1, by omega, by go_num, ⟨HC.out.k.setB (Nat.le_trans HBase.out (HG.out)) _, (tr.lc HCne.out HC.out.lc), ⟨_, hf.set k _⟩, ⟨_, tr.fe (HC.out.f2).choose_spec HNE.out⟩⟩⟩
      case measure => simp [intOf]; omega
    · obtain rfl : N1 = k := by omega
      have HC0 := HC
      clear HC
      go_wp2
      clear d0 d1 d2 d3 d4
      go_loopw [43] (fun i wr => ∃ k : Nat, k ≤ N2 ∧ i = .int .i64 k ∧ Hid (Cz W1 C base n s ep (.slice b1 N1 c1) (.slice b2 N2 c2) N1 N2 wr)) (fun i _ => N2 - (intOf i).toNat)
      case atStart => exact ⟨0, Nat.zero_le _, rfl, HC0⟩
      case round =>
        clear HC0
        obtain ⟨k, hk, rfl, HC⟩ := hrel
        obtain ⟨d0, d1, d2, d3, d4⟩ := HC.out.lc
        by_cases hlt : k < N2
        · obtain ⟨g, rfl, hg⟩ := i2 (by omega)
          obtain ⟨f, hf⟩ := HC.out.f2
          have x0 := hf.at k hlt
          have z0 := hf.z k
          have HG : Hid (base ≤ g) := hg
          have HCne : Hid (C ≠ g) := by show C ≠ g; have := HCb.out g (Or.inr rfl); omega
          have HNE : Hid ((Value.slice b1 N1 c1).ownBlock ≠ some g) := HApt2.out g rfl
          have HF := hid hf
          obtain ⟨x, hx⟩ : ∃ x, x = f k := ⟨_, rfl⟩
          rw [← hx] at x0
          have hCg : C ≠ g := HCne.out
          have hCg2 : g ≠ C := fun e => hCg e.symm
          clear hx hf hg
          go_wp2
          go_roundw
          case rel =>
            have hf := HF.out
            have tr : Trd g wr (wr.setCell ⟨g, k, none⟩ (.int .i64 (bits .xor .i64 x by_))) := (Trd.refl g wr).setCell k _
            exact ⟨k + 1, by omega, by go_num, ⟨HC.out.k.setB (Nat.le_trans HBase.out (HG.out)) _, (tr.lc HCne.out HC.out.lc), ⟨_, tr.fe (HC.out.f1).choose_spec HNE.out⟩, ⟨_, hf.set k _⟩⟩⟩
          case measure => simp [intOf]; omega
        · obtain rfl : N2 = k := by omega
          obtain ⟨a0, a1, a2, a3, a4⟩ := HQ1.out.kept HC.out.k
          obtain ⟨e0, e1, e2, e3, e4⟩ := HQ2.out.kept HC.out.k
          have hS := same_any ⟨n, s, ep, S, M⟩ _ _ _ _ wr (HN.out wr HC.out.k).1.1 (HN.out wr HC.out.k).1.2 (HN.out wr HC.out.k).2.1 (HN.out wr HC.out.k).2.2
          simp only at hS
          unfold lV at hS
          have KF := hid (KW1.out.trans HC.out.k)
          clear d0 d1 d2 d3 d4
          go_wp2_with fail
          refine hS.mono ?_; rintro e w6 ⟨rfl, k6⟩
          have KF2 := hid (KF.out.trans k6)
          clear hS k6 a0 a1 a2 a3 a4 e0 e1 e2 e3 e4
          go_wp2
          go_ret
          exact ⟨rfl, KF2.out⟩
theorem walk (w : World) (a0 : RL) (a1 : Int) (w0 : ROk w a0) (w1 : (Lit.int .i64 a1).wf = true) :
    Calls Try.prog 8 #[rV a0, .int .i64 a1] w fun e w' => e = .returned (.bool true) ∧ Kp w w' := by
  exact walkN w a0.n a0.s a0.ep a0.sv a0.mv a0.sts a0.mks w0.h1 w0.h2 a1

set_option maxRecDepth 100000 in
theorem lifted (os : Os) (started : os.Started) (H : Type) (enc : TypeId × Value → H) :
    ReturnsInHanded {} Try.checked os 8 .any (Rows.labelCopiesSpec.pre6 enc Try.prog Try.f8 Rows.labelCopiesRow.domain false) (Rows.labelCopiesSpec.post enc Try.prog Try.f8 false true false false) := by
  refine returnsInHanded_of_change (C := Try.checked) own started (by kernel_rfl) Try.func8
    (ChangeSpec.witness6 (enc := enc) (C := Try.checked) false ⟨#[], #[.agg #[.int .i64 0, .int .i64 0, .int .i64 0, .slice none 0 0, .slice none 0 0], .int .i64 0], []⟩ 8 (by kernel_rfl) (by kernel_rfl) (by kernel_rfl) (by kernel_rfl)) ?_
  intro W base args ds gs before hval0 hW hcnd _
  have hval : ∀ (j : Nat) t v, Try.f8.params[j]? = some t → args[j]? = some v → Value.okWide Try.prog W .any base t v := hval0
  have hW' := hW
  have hlt := hW.lt
  obtain ⟨p, q, hA0, hV, rfl, hfz, hnd⟩ := hW
  have hA : DataW.TrodAll enc Try.prog W 0 (fun _ => true) true Try.f8.params.toList args.toList ds p := hA0
  have hAk := hA
  rw [Try.params8] at hA hval
  obtain ⟨v0, vs0, d0, ds0, p0, q0, hargs, rfl, rfl, h0, r0⟩ := trodAll_cons hA
  obtain ⟨v1, vs1, d1, ds1, p1, q1, rfl, rfl, rfl, h1, r1⟩ := trodAll_cons r0
  obtain ⟨rfl, rfl, rfl⟩ := trodAll_nil r1
  obtain rfl : args = #[v0, v1] := by cases args; simp_all
  obtain ⟨rfl, rfl⟩ := trodVars_none hV
  obtain ⟨a0, rfl, w0⟩ := open_raw (hval 0 24 v0 rfl rfl) h0
  obtain ⟨a1, rfl, rfl, rfl, w1⟩ := open_int Try.underlying3 (hval 1 3 v1 rfl rfl) h1
  clear hA0 hval0
  simp only [List.append_nil] at hW' hAk hlt
  refine (walk W a0 a1 w0 w1).mono fun e W' ⟨he, hg⟩ => ?_
  subst he
  exact ⟨_, rfl, post_kp (pv := []) hW' (fun _ _ _ => (trodAll_cons_mk (shut_bool Try.underlying4 _) trodAll_mk0)) (fun sp hsp => trodAll_stays laidOut (by rw [Try.params8]; exact of_decide_eq_true (by kernel_rfl)) hAk (fun x hx => Below.same hg (hlt x hx)) hsp) (fun _ _ => rfl) (by simp) hg⟩

theorem over : Rows.labelCopiesRow.holds Try.pinned (OpenSpec.ofChange Rows.labelCopiesSpec) :=
  OpenClaim.holds_of_wide 8 Try.f8 rfl rfl rfl rfl rfl rfl rfl ⟨rfl, rfl, rfl, rfl, rfl⟩ rfl rfl rfl rfl rfl (by kernel_rfl) Try.func8 (by kernel_rfl)
    (of_decide_eq_true (by kernel_rfl)) (by unfold Func.isWrapper; first | (rw [if_pos (by decide +kernel)]; kernel_rfl) | (rw [if_neg (by decide +kernel)]; exact ⟨rfl, rfl⟩))
    (fun os started H enc _ => lifted os started H enc)

end Go.Proofs.Ytobpgfnmhpgkeaa.labelCopies
namespace Go.Proofs.Ytobpgfnmhpgkeaa
theorem labelCopies_holds : Rows.LabelCopiesSaid := labelCopies.over
end Go.Proofs.Ytobpgfnmhpgkeaa
