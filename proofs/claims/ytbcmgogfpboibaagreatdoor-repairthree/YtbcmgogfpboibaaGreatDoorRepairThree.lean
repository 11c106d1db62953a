/-
  RepairThree: for every input the law answers true, and its arguments read as before. The condition: the kinds' names read as the package lays them.
-/
import Derived.Test.YtbcmgogfpboibaaGreatDoorRows
import Derived.Test.YtbcmgogfpboibaaGreatDoorCards
import Derived.Test.YtbcmgogfpboibaaGreatDoorTie
import Derived.Test.YtbcmgogfpboibaaGreatDoorRepArgs
import Derived.Test.YtbcmgogfpboibaaGreatDoorRepArgs3
import Derived.WalkKit
import Derived.ProofKit
import Derived.OpenShut
import Derived.ShutString
import Derived.LaidMore
import Derived.SevenTiedAt
import Derived.Stop.Joined
namespace Go.Proofs.YtbcmgogfpboibaaGreatDoor.repairThree
open Go.ChangeShapes Go.WideShapes Go.ChangeAt Go.RowKit
open Go.ChangeMaps (open_string shut_string)
open Plain Go.BigFrame
set_option linter.unusedVariables false

theorem own : ownKnob Tryz.prog.godebug = none := by kernel_rfl
theorem laidOut : laidOutB Tryz.prog = true := by kernel_rfl
theorem cellsS : Tryz.prog.cellsOf 9 = 1 := by kernel_rfl
theorem cellsI : Tryz.prog.cellsOf 3 = 1 := by kernel_rfl
theorem cellsK : Tryz.prog.cellsOf 47 = 3 := by kernel_rfl

set_option maxRecDepth 100000 in
set_option maxHeartbeats 8000000 in
theorem walk (w : World) (hN : Names w) (a0 : Value) (l0 : List ByteArray) (a1 b1 c1 : Int) (w0 : StrsIn w a0 l0) (x0 : ∀ i, i < l0.length → (l0.getD i noS).size ≤ maxLen) (w1 : (Lit.int .i64 a1).wf = true) (x1 : (Lit.int .i64 b1).wf = true) (y1 : (Lit.int .i64 c1).wf = true) :
    Calls Tryz.prog 7 #[a0, .agg #[.int .i64 a1, .int .i64 b1, .int .i64 c1]] w fun e w' => e = .returned (.bool true) ∧ Kp w w' := by
  have ba := bounds_i64 w1
  have bb := bounds_i64 x1
  have bc := bounds_i64 y1
  clear w1 x1 y1
  obtain ⟨i0, hi, hz0, hz1, hz2⟩ := info_parts info_str5
  obtain ⟨a, len, cap, rfl⟩ := w0.slc
  obtain ⟨m0, D, hm, hc1, hc2, hD, hDs⟩ := row_cut w0 x0 12
  have hrow := row_any _ D hDs (w.alloc (.cells #[.int .i64 a1, .int .i64 b1, .int .i64 c1] 47)) (hD.kept ((Kp.refl w).alloc _))
  have hmn : min (len : Int) 12 = (m0 : Int) := by omega
  have hmc : m0 ≤ cap := by omega
  clear w0 x0 hD hDs hm
  obtain ⟨xa, hma⟩ : ∃ n : Nat, max 0 a1 = (n : Int) := ⟨(max 0 a1).toNat, by omega⟩
  obtain ⟨xb, hmb⟩ : ∃ n : Nat, max 0 b1 = (n : Int) := ⟨(max 0 b1).toNat, by omega⟩
  obtain ⟨xc, hmd⟩ : ∃ n : Nat, max 0 c1 = (n : Int) := ⟨(max 0 c1).toNat, by omega⟩
  have hxa : xa ≤ 9223372036854775807 := by omega
  have hxb : xb ≤ 9223372036854775807 := by omega
  have hxc : xc ≤ 9223372036854775807 := by omega
  have c0 : (w.alloc (.cells #[.int .i64 a1, .int .i64 b1, .int .i64 c1] 47)).cell? ⟨w.heap.size, 0, none⟩ = some (.int .i64 a1) := by rw [World.cell?_alloc_at _ _ _ _ rfl]; rfl
  have c1' : (w.alloc (.cells #[.int .i64 a1, .int .i64 b1, .int .i64 c1] 47)).cell? ⟨w.heap.size, 1, none⟩ = some (.int .i64 b1) := by rw [World.cell?_alloc_at _ _ _ _ rfl]; rfl
  have c2 : (w.alloc (.cells #[.int .i64 a1, .int .i64 b1, .int .i64 c1] 47)).cell? ⟨w.heap.size, 2, none⟩ = some (.int .i64 c1) := by rw [World.cell?_alloc_at _ _ _ _ rfl]; rfl
  have kb : Kp w (w.alloc (.cells #[.int .i64 a1, .int .i64 b1, .int .i64 c1] 47)) := (Kp.refl w).alloc _
  have HMA : Hid (max 0 a1 = (xa : Int)) := hma
  have HMB : Hid (max 0 b1 = (xb : Int)) := hmb
  have HMC : Hid (max 0 c1 = (xc : Int)) := hmd
  clear hma hmb hmd
  go_enter Tryz.func7, Tryz.ntmps7
  go_wp2_with fail
  refine hrow.mono ?_; rintro e w1 ⟨va, rfl, hA, k1⟩
  have e1 := k1.held c0
  have e2 := k1.held c1'
  have e3 := k1.held c2
  have HK0 : Hid (Kp w w1) := kb.trans k1
  clear hmn hrow hmc hc1 hc2 c0 c1' c2 kb k1
  obtain ⟨A, hAe⟩ : ∃ A, A = rowL D := ⟨_, rfl⟩
  rw [← hAe] at hA
  have HAE : Hid (A = rowL D) := hAe
  obtain ⟨aa, ab, ao, ac, rfl, p1, p2, p3, p4⟩ := hA.parts
  have HA : Hid (StrsIn w1 (.slice aa A.length ac) A) := hA
  unfold maxLen at p2
  clear hAe hA p4
  by_cases hz : A.length = 0
  · rw [hz]
    go_wp2_with fail
    refine (wakes5 w1 (hN.kp HK0.out)).mono ?_; rintro e w2 ⟨rfl, k2⟩
    go_wp2
    go_ret
    exact ⟨rfl, HK0.out.trans k2⟩
  · have hpos : 0 < A.length := by omega
    obtain rfl := p3 hpos
    have hmk : mkE (rwL D) = 0 := rowL_some (by rw [← HAE.out]; exact hpos)
    have hfits := rowL_fits hmk
    obtain ⟨l1, l2, l3⟩ := rowL_len hmk
    rw [← HAE.out] at hfits l1
    have hn40 := rw_ln D
    obtain ⟨n, hn⟩ : ∃ n, n = (cutO 40 (D.getD 0 noS)).size := ⟨_, rfl⟩
    obtain ⟨k, hk⟩ : ∃ k, k = (rwL D).length := ⟨_, rfl⟩
    rw [← hn] at hfits hn40
    rw [← hk] at hfits l1 l2 l3
    have HFT : Hid (Fits n k A) := hfits
    have hsmall : ∀ j, j < A.length → (A.getD j noS).size ≤ maxLen := fun j hj => by rw [HFT.out.sz.at j hj]; unfold maxLen; omega
    have hA2 : A.length ≤ k + 2 := by omega
    have hA3 : k + 2 ≤ A.length := by omega
    have hma : max 0 a1 = (xa : Int) := HMA.out
    have hmb : max 0 b1 = (xb : Int) := HMB.out
    have hmc : max 0 c1 = (xc : Int) := HMC.out
    obtain ⟨qa, hqa'⟩ : ∃ q, q = xa % A.length := ⟨_, rfl⟩
    obtain ⟨rb, hrb'⟩ : ∃ q, q = xb % (A.length - 1) := ⟨_, rfl⟩
    obtain ⟨qb, hqb'⟩ : ∃ q, q = (qa + 1 + rb) % A.length := ⟨_, rfl⟩
    obtain ⟨qc, hqc'⟩ : ∃ q, q = xc % A.length := ⟨_, rfl⟩
    have ya : qa < A.length := by rw [hqa']; exact Nat.mod_lt _ hpos
    have yr : rb < A.length - 1 := by rw [hrb']; exact Nat.mod_lt _ (by omega)
    have yc : qc < A.length := by rw [hqc']; exact Nat.mod_lt _ hpos
    obtain ⟨yne, yb⟩ := two_step ya (show rb + 1 < A.length by omega)
    rw [← hqb'] at yne yb
    have hqa : (xa : Int) % (A.length : Int) = (qa : Int) := by rw [hqa']; rfl
    have hrb : (xb : Int) % ((A.length : Int) - 1) = (rb : Int) := by rw [hrb', show (A.length : Int) - 1 = ((A.length - 1 : Nat) : Int) by omega]; rfl
    have hqb : ((qa : Int) + 1 + (rb : Int)) % (A.length : Int) = (qb : Int) := by rw [hqb', show (qa : Int) + 1 + (rb : Int) = ((qa + 1 + rb : Nat) : Int) by omega]; rfl
    have hqc : (xc : Int) % (A.length : Int) = (qc : Int) := by rw [hqc']; rfl
    clear hn hk hfits hmk l1 p3 hqa' hrb' hqb' hqc' hz HMA HMB HMC ba bb bc
    by_cases hca : qc = qa
    · subst hca
      obtain ⟨x1, x2, x3⟩ := fx_kept HFT.out (by omega) (by omega) (by omega) [(qc : Int), (qb : Int), (qc : Int)] (fun z hz => by simp at hz; omega) (by rw [gn_congr (m := [(qc : Int), (qb : Int)]) (fun z => by simp; omega)]; exact gn_len _ _)
      have hX := fun (w' : World) (f b : Nat) (hf : FixIn w' f b (fun _ => 0)) (hL : StrsIn w' (.slice (some ⟨ab, ao, none⟩) A.length ac) A) => fix_any (w'.alloc (.cells #[.int .i64 (qc : Int), .int .i64 (qb : Int), .int .i64 (qc : Int)] 3)) f b _ (hf.kp ((Kp.refl w').alloc _)) cnt_zero _ _ A [(qc : Int), (qb : Int), (qc : Int)] (hL.kept ((Kp.refl w').alloc _)) hsmall (IntsIn.lit3 w' (qc : Int) (qb : Int) (qc : Int) 3) (by simp)
      rw [x1, x2] at hX
      clear x1 x2 x3
      go_wp2_with fail
      refine (fnew_any w1).mono ?_; rintro e w2 ⟨f, b, rfl, hF, k2, f2, b2⟩
      have hX2 := hX w2 f b hF (HA.out.kept k2)
      have k3 : Kp w1 (w2.alloc (.cells #[.int .i64 (qc : Int), .int .i64 (qb : Int), .int .i64 (qc : Int)] 3)) := k2.alloc _
      have HFB : Hid (∀ t, t ∈ [f, b] → w1.heap.size ≤ t) := fun t ht => by simp at ht; rcases ht with rfl | rfl <;> assumption
      clear hX hF k2 f2 b2
      go_wp2_with fail
      refine hX2.mono ?_; rintro e w4 ⟨v4, rfl, hv4, _, s4⟩
      have K14 : Kp w1 w4 := s4.kp k3 HFB.out
      clear hX2 s4 k3 HFB e1 e2 e3 hqa hqb hqc hrb hma hmb hmc
      go_wp2_with fail
      refine (wakes5 w4 (hN.kp (HK0.out.trans K14))).mono ?_; rintro e w5 ⟨rfl, k5⟩
      have hEq := equal_any v4 _ A A w5 (hv4.kept k5) (HA.out.kept (K14.trans k5))
      rw [decide_eq_true (rfl : A = A)] at hEq
      clear hv4
      go_wp2_with fail
      refine hEq.mono ?_; rintro e w6 ⟨rfl, k6⟩
      have HK6 : Hid (Kp w w6) := ((HK0.out.trans K14).trans k5).trans k6
      clear hEq K14 k5 k6
      go_wp2
      go_ret
      exact ⟨rfl, HK6.out⟩
    · by_cases hcb : qc = qb
      · subst hcb
        have hca' : ((qc : Int) == (qa : Int)) = false := by simp; omega
        obtain ⟨x1, x2, x3⟩ := fx_kept HFT.out (by omega) (by omega) (by omega) [(qa : Int), (qc : Int), (qc : Int)] (fun z hz => by simp at hz; omega) (by rw [gn_congr (m := [(qa : Int), (qc : Int)]) (fun z => by simp)]; exact gn_len _ _)
        have hX := fun (w' : World) (f b : Nat) (hf : FixIn w' f b (fun _ => 0)) (hL : StrsIn w' (.slice (some ⟨ab, ao, none⟩) A.length ac) A) => fix_any (w'.alloc (.cells #[.int .i64 (qa : Int), .int .i64 (qc : Int), .int .i64 (qc : Int)] 3)) f b _ (hf.kp ((Kp.refl w').alloc _)) cnt_zero _ _ A [(qa : Int), (qc : Int), (qc : Int)] (hL.kept ((Kp.refl w').alloc _)) hsmall (IntsIn.lit3 w' (qa : Int) (qc : Int) (qc : Int) 3) (by simp)
        rw [x1, x2] at hX
        clear x1 x2 x3
        go_wp2_with fail
        refine (fnew_any w1).mono ?_; rintro e w2 ⟨f, b, rfl, hF, k2, f2, b2⟩
        have hX2 := hX w2 f b hF (HA.out.kept k2)
        have k3 : Kp w1 (w2.alloc (.cells #[.int .i64 (qa : Int), .int .i64 (qc : Int), .int .i64 (qc : Int)] 3)) := k2.alloc _
        have HFB : Hid (∀ t, t ∈ [f, b] → w1.heap.size ≤ t) := fun t ht => by simp at ht; rcases ht with rfl | rfl <;> assumption
        clear hX hF k2 f2 b2
        go_wp2_with fail
        refine hX2.mono ?_; rintro e w4 ⟨v4, rfl, hv4, _, s4⟩
        have K14 : Kp w1 w4 := s4.kp k3 HFB.out
        clear hX2 s4 k3 HFB e1 e2 e3 hqa hqb hqc hrb hma hmb hmc
        go_wp2_with fail
        refine (wakes5 w4 (hN.kp (HK0.out.trans K14))).mono ?_; rintro e w5 ⟨rfl, k5⟩
        have hEq := equal_any v4 _ A A w5 (hv4.kept k5) (HA.out.kept (K14.trans k5))
        rw [decide_eq_true (rfl : A = A)] at hEq
        clear hv4
        go_wp2_with fail
        refine hEq.mono ?_; rintro e w6 ⟨rfl, k6⟩
        have HK6 : Hid (Kp w w6) := ((HK0.out.trans K14).trans k5).trans k6
        clear hEq K14 k5 k6
        go_wp2
        go_ret
        exact ⟨rfl, HK6.out⟩
      · have hca' : ((qc : Int) == (qa : Int)) = false := by simp; omega
        have hcb' : ((qc : Int) == (qb : Int)) = false := by simp; omega
        have hsr : srE ((A.length : Int) - 2) [(qa : Int), (qb : Int), (qc : Int)] = 20 := by
          rw [show (A.length : Int) - 2 = (k : Int) by omega]
          refine (sr_many (by omega) (by omega) (List.all_eq_true.2 fun z hz => decide_eq_true (by simp at hz; omega)) ?_).1
          rw [dst_gn (k + 2) _ (fun z hz => by simp at hz; omega), List.length_map]
          exact gn_three (show qa < k + 2 by omega) (show qb < k + 2 by omega) (show qc < k + 2 by omega) (fun e => yne e.symm) (fun e => hca e.symm) (fun e => hcb e.symm) (by simp) (by simp) (by simp)
        obtain ⟨x1, x2, x3⟩ := fx_not (L := A) (lost := [(qa : Int), (qb : Int), (qc : Int)]) (by rw [hsr]; decide)
        rw [hsr] at x1
        have hX := fun (w' : World) (f b : Nat) (hf : FixIn w' f b (fun _ => 0)) (hL : StrsIn w' (.slice (some ⟨ab, ao, none⟩) A.length ac) A) => fix_any (w'.alloc (.cells #[.int .i64 (qa : Int), .int .i64 (qb : Int), .int .i64 (qc : Int)] 3)) f b _ (hf.kp ((Kp.refl w').alloc _)) cnt_zero _ _ A [(qa : Int), (qb : Int), (qc : Int)] (hL.kept ((Kp.refl w').alloc _)) hsmall (IntsIn.lit3 w' (qa : Int) (qb : Int) (qc : Int) 3) (by simp)
        rw [x1, x2] at hX
        clear x1 x2 x3 hsr
        go_wp2_with fail
        refine (fnew_any w1).mono ?_; rintro e w2 ⟨f, b, rfl, hF, k2, f2, b2⟩
        have hX2 := hX w2 f b hF (HA.out.kept k2)
        have k3 : Kp w1 (w2.alloc (.cells #[.int .i64 (qa : Int), .int .i64 (qb : Int), .int .i64 (qc : Int)] 3)) := k2.alloc _
        have HFB : Hid (∀ t, t ∈ [f, b] → w1.heap.size ≤ t) := fun t ht => by simp at ht; rcases ht with rfl | rfl <;> assumption
        clear hX hF k2 f2 b2
        go_wp2_with fail
        refine hX2.mono ?_; rintro e w4 ⟨v4, rfl, hv4, _, s4⟩
        have K14 : Kp w1 w4 := s4.kp k3 HFB.out
        clear hX2 s4 k3 HFB e1 e2 e3 hqa hqb hqc hrb hma hmb hmc
        obtain ⟨ga, gb, go, gc, rfl, _⟩ := hv4.parts
        go_wp2_with fail
        refine (wakes5 w4 (hN.kp (HK0.out.trans K14))).mono ?_; rintro e w5 ⟨rfl, k5⟩
        have HK6 : Hid (Kp w w5) := (HK0.out.trans K14).trans k5
        clear K14 k5 hv4
        go_wp2
        go_ret
        exact ⟨rfl, HK6.out⟩

set_option maxRecDepth 100000 in
theorem lifted (os : Os) (started : os.Started) (H : Type) (enc : TypeId × Value → H) :
    ReturnsInHanded {} Tryz.checked os 7 .any (fun w args => (Rows.repairThreeSpec.pre enc Tryz.prog Tryz.f7 [] false w args ∧ laidMetH Tryz.prog lz w) ∧ sizedMet enc Tryz.prog Tryz.f7 (OpenSpec.ofChange Rows.repairThreeSpec) false w args)
      (Rows.repairThreeSpec.post enc Tryz.prog Tryz.f7 false true false false) := by
  refine returnsInHanded_of_change_and (C := Tryz.checked) (X := fun w _ => laidMetH Tryz.prog lz w) (fun _ _ _ hh h => h.of_heap hh) own started (by kernel_rfl) Tryz.func7
    (ChangeSpec.witness_shaped (enc := enc) (C := Tryz.checked) (os := os) (X := fun w _ => laidMetH Tryz.prog lz w) false (World.doorLaid Tryz.prog 400 os) #[.slice none 0 0, .agg #[.int .i64 0, .int .i64 0, .int .i64 0]] 8 rfl (World.shaped_of_RefB (by kernel_rfl) (by kernel_rfl)) (by kernel_rfl) (by kernel_rfl) (by kernel_rfl) (door_met os _)) ?_
  intro W base args ds gs before hval0 hW hcnd _ hL _
  have hval : ∀ (j : Nat) t v, Tryz.f7.params[j]? = some t → args[j]? = some v → Value.okWide Tryz.prog W .any base t v := hval0
  have hW' := hW
  have hlt := hW.lt
  obtain ⟨p, q, hA0, hV, rfl, hfz, hnd⟩ := hW
  have hA : DataW.TrodAll enc Tryz.prog W 0 (fun _ => true) true Tryz.f7.params.toList args.toList ds p := hA0
  have hAk := hA
  rw [Tryz.params7] at hA hval
  obtain ⟨v0, vs0, d0, ds0, p0, q0, hargs, rfl, rfl, h0, r0⟩ := trodAll_cons hA
  obtain ⟨v1, vs1, d1, ds1, p1, q1, rfl, rfl, rfl, h1, r1⟩ := trodAll_cons r0
  obtain ⟨rfl, rfl, rfl⟩ := trodAll_nil r1
  obtain rfl : args = #[v0, v1] := by cases args; simp_all
  obtain ⟨rfl, rfl⟩ := trodVars_none hV
  obtain ⟨l0, w0, x0⟩ := open_strs Tryz.underlying33 Tryz.underlying9 cellsS (hval 0 33 v0 rfl rfl) h0
  obtain ⟨a1, b1, c1, rfl, w1, x1, y1⟩ := open_ints3 Tryz.underlying47 Tryz.underlying3 cellsI cellsK (hval 1 47 v1 rfl rfl) h1
  clear hA0 hval0
  simp only [List.append_nil] at hW' hAk hlt
  refine (walk W (of_laid hL) v0 l0 a1 b1 c1 w0 x0 w1 x1 y1).mono fun e W' ⟨he, hg⟩ => ?_
  subst he
  exact ⟨_, rfl, post_kp (pv := []) hW' (fun _ _ _ => (trodAll_cons_mk (shut_bool Tryz.underlying4 _) trodAll_mk0)) (fun sp hsp => trodAll_stays laidOut (by rw [Tryz.params7]; exact of_decide_eq_true (by kernel_rfl)) hAk (fun x hx => Below.same hg (hlt x hx)) hsp) (fun _ _ => rfl) (by simp) hg⟩

theorem over : Rows.repairThreeRow.holds Tryz.pinned (OpenSpec.ofChange Rows.repairThreeSpec) :=
  OpenClaim.holds_of_wide 7 Tryz.f7 rfl rfl rfl rfl rfl rfl rfl ⟨rfl, rfl, rfl, rfl, rfl⟩ rfl rfl rfl rfl rfl (by kernel_rfl) Tryz.func7 (by kernel_rfl)
    (of_decide_eq_true (by kernel_rfl)) (by unfold Func.isWrapper; first | (rw [if_pos (by decide +kernel)]; kernel_rfl) | (rw [if_neg (by decide +kernel)]; exact ⟨rfl, rfl⟩))
    (fun os started H enc _ => lifted os started H enc)

theorem card : Claim7.holds Tryz.pinned (.plain (OpenSpec.ofChange Rows.repairThreeSpec)) Rows.repairThreeCard :=
  Claim7.holds_tied_plain_at .later [] [.data] true Rows.repairThreeCard.stood.harness false
    over (fun _ h => by cases h) (by kernel_rfl) (fun _ h => by cases h) repairThree_row_tie rfl ⟨rfl, rfl⟩ (by kernel_rfl) rfl
    (fun f fn hf hfn => by
      have e : some f = some 7 := hf.symm.trans (by kernel_rfl)
      obtain rfl := Option.some.inj e
      obtain rfl : fn = Tryz.f7 := (Option.some.inj (Tryz.func7.symm.trans hfn)).symm
      exact ⟨by kernel_rfl, fun j t ht => by
        rw [Tryz.params7] at ht
        have hm : t ∈ [33, 47] := by simpa using Array.mem_of_getElem? ht
        have hall : ([33, 47].all fun u => !Tryz.prog.wantsStandIn u) = true := by kernel_rfl
        exact (show Tryz.prog.wantsStandIn t = false by simpa using List.all_eq_true.1 hall t hm)⟩)
    (by kernel_rfl)

end Go.Proofs.YtbcmgogfpboibaaGreatDoor.repairThree
namespace Go.Proofs.YtbcmgogfpboibaaGreatDoor
theorem repairThree_holds : Rows.RepairThreeCardSaid := repairThree.card
end Go.Proofs.YtbcmgogfpboibaaGreatDoor
