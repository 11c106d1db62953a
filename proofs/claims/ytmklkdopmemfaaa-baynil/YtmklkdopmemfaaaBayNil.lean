/-
  BayNil (P11.1 to P11.3): of a nil bay, and of members that there aren't, nothing is had, and no step is made. No condition.
-/
import Derived.Test.YtmklkdopmemfaaaRows
import Derived.Test.YtmklkdopmemfaaaBufArgs
import Derived.Test.YtmklkdopmemfaaaByNil
import Derived.WalkKit
import Derived.ProofKit
import Derived.OpenShut
import Derived.ShutString
import Derived.Deep.QuietTactic
import Derived.BigQuiet
import Derived.Deep.RegionWith
import Derived.Deep.RegionHeld3
import Derived.Deep.DeepCutAuto
import Derived.Deep.CutBlock
namespace Go.Proofs.Ytmklkdopmemfaaa.bayNil
open Go.ChangeShapes Go.WideShapes Go.ChangeAt Go.RowKit
open Go.ChangeMaps (open_string shut_string)
open Go.Proofs.Ytmklkdopmemfaaa Plain
set_option linter.unusedVariables false

theorem own : ownKnob Try.prog.godebug = none := by kernel_rfl
theorem laidOut : laidOutB Try.prog = true := by kernel_rfl
set_option maxRecDepth 100000 in
set_option maxHeartbeats 4000000 in
theorem walkN (w : World) (a : A6) (ha : A6Ok w a) :
    Calls Try.prog 6 #[a6V a] w fun e w' => e = .returned (.bool true) ∧ Kp w w' := by
  obtain ⟨op, i_, at_, data, odd, kv, KK⟩ := a
  have wI := ha.w2
  unfold a6V a6cs
  simp only
  show Calls Try.prog 6 #[.agg #[.int .i64 op, .int .i64 i_, .int .i64 at_, .int .u8 (data : Int), .bool odd, kv]] w _
  have hk1 : kv.oneCell' = true := by obtain ⟨a, cap, e, _⟩ := ha.k.h; rw [show kv = _ from e]; rfl
  obtain ⟨a0, c0, ek, _⟩ := ha.k.h
  have ek2 : kv = .slice a0 KK.length c0 := ek
  subst ek2
  obtain ⟨n0, hn0⟩ : ∃ n0, n0 = KK.length := ⟨_, rfl⟩
  rw [← hn0]
  clear ha hn0 ek hk1
  obtain ⟨w0, hw0⟩ : ∃ w0, w0 = w.alloc (.cells #[.int .i64 op, .int .i64 i_, .int .i64 at_, .int .u8 (data : Int), .bool odd, .slice a0 n0 c0] 31) := ⟨_, rfl⟩
  obtain ⟨B, hB⟩ : ∃ B, B = w.heap.size := ⟨_, rfl⟩
  have k0 : Kp w w0 := by rw [hw0]; exact (Kp.refl w).alloc _
  have r1 : w0.cell? ⟨B, 1, none⟩ = some (.int .i64 i_) := by rw [hw0, World.cell?_alloc_at _ _ _ _ hB]; rfl
  have r2 : w0.cell? ⟨B, 2, none⟩ = some (.int .i64 at_) := by rw [hw0, World.cell?_alloc_at _ _ _ _ hB]; rfl
  have HW := hid hw0
  have HB := hid hB
  have hBl : B < w0.heap.size := World.block_lt_of_cell? _ _ r1
  clear hw0 hB
  go_enter Try.func6, Try.ntmps6
  go_wp2_with fail
  rw [← HW.out, ← HB.out]
  refine (bw_new 2 3 w0 w0 (Kp.refl w0)).mono ?_
  rintro e w1 ⟨b, T1, rfl, h1, k1, t1⟩
  have q1 := k1.held r1
  have q2 := k1.held r2
  have hBT : B ∉ T1 := fun hm => by have := t1 B hm; omega
  clear r1 r2
  go_wp2_with fail
  refine (nb_read i_ at_ w1).mono ?_
  rintro e w2 ⟨rfl, rfl⟩
  go_wp2_with fail
  refine (nb_cut at_ w2).mono ?_
  rintro e w3 ⟨rfl, rfl⟩
  go_wp2_with fail
  refine (nb_crash none 0 0 w3).mono ?_
  rintro e w4 ⟨rfl, rfl⟩
  go_wp2_with fail
  refine (wakes_bay w4).mono ?_
  rintro e w5 ⟨rfl, k5⟩
  have h5 := OL.bw.sp h1 (k5.sp []) (fun _ _ h => by cases h)
  have K5 := k1.trans k5
  have p1 := k5.held q1
  have p2 := k5.held q2
  clear h1 k1 k5 q1 q2
  go_wp2_with fail
  refine (nb_size w5).mono ?_
  rintro e w6 ⟨rfl, rfl⟩
  go_wp2_with fail
  refine (nb_member i_ w6).mono ?_
  rintro e w7 ⟨rfl, rfl⟩
  go_wp2_with fail
  refine (nb_write i_ at_ _ w7).mono ?_
  rintro e w8 ⟨rfl, rfl⟩
  go_wp2_with fail
  refine (nb_flush i_ w8).mono ?_
  rintro e w9 ⟨rfl, rfl⟩
  go_wp2_with fail
  refine (nb_off w9).mono ?_
  rintro e w10 ⟨rfl, rfl⟩
  go_wp2_with fail
  refine (nb_live w10).mono ?_
  rintro e w11 ⟨rfl, rfl⟩
  go_wp2_with fail
  refine (nb_steps w11).mono ?_
  rintro e w12 ⟨rfl, rfl⟩
  have eF : fdE (nwB 2 3) i_ = if 0 ≤ i_ ∧ i_ < 2 then 0 else 11 := rfl
  by_cases hi : 0 ≤ i_ ∧ i_ < 2
  · have hf : fdE (nwB 2 3) i_ = 0 := by rw [eF, if_pos hi]
    have hm := bw_member h5 hf
    obtain ⟨hi1, hi2⟩ := hi
    clear h5 hf eF
    go_wp2_with fail
    refine hm.mono ?_
    rintro e w13 ⟨x, rfl, rfl⟩
    go_wp2
    go_ret
    exact ⟨rfl, k0.trans K5⟩
  · have hf : fdE (nwB 2 3) i_ ≠ 0 := by rw [eF, if_neg hi]; decide
    have hg : decide (0 ≤ i_) = false ∨ (decide (0 ≤ i_) = true ∧ decide (i_ < 2) = false) := by
      by_cases h0 : 0 ≤ i_
      · exact .inr ⟨decide_eq_true h0, decide_eq_false (fun h => hi ⟨h0, h⟩)⟩
      · exact .inl (decide_eq_false h0)
    obtain ⟨e1, e2, e3⟩ := rd_no hf at_
    have hrd := bw_read h5 K5 i_ at_
    rw [e1, e2, e3] at hrd
    clear e1 e2 e3 eF hi
    rcases hg with hg | ⟨hg, hg2⟩
    all_goals (
      go_wp2_with fail
      refine hrd.mono ?_
      rintro e w13 ⟨rfl, n13⟩
      have K13 := n13.below OL.bw h5 K5
      obtain ⟨T13, h13, s13, m13⟩ := n13
      have b1 := s13.held p1 hBT
      have b2 := s13.held p2 hBT
      have hm2 := bw_nomember h13 hf
      clear hrd s13
      go_wp2_with fail
      refine hm2.mono ?_
      rintro e w14 ⟨rfl, rfl⟩
      have hw := bw_write h13 K13 i_ at_ ByteArray.empty (by show 0 < 1000000; omega)
      rw [(op_no hf _ (fun S => wr S at_ ByteArray.empty)).1, (op_no hf (fun S => wrE S at_ ByteArray.empty) _).2] at hw
      go_wp2_with fail
      refine hw.mono ?_
      rintro e w15 ⟨rfl, n15⟩
      have K15 := n15.below OL.bw h13 K13
      obtain ⟨T15, h15, s15, m15⟩ := n15
      have hBT13 : B ∉ T13 := fun hm => by
        rcases m13 B hm with h | h
        · exact hBT h
        · have h9 : B < _ := World.block_lt_of_cell? _ _ p1; omega
      have c1 := s15.held b1 hBT13
      have hfl := bw_flush h15 K15 i_ (by show 1 < 1000000; omega)
      have hf2 : fdE ⟨(nwB 2 3).pw, (nwB 2 3).md, (nwB 2 3).g + 1, (nwB 2 3).ms⟩ i_ ≠ 0 := hf
      rw [(op_no hf2 flE fl).1, (op_no hf2 flE fl).2] at hfl
      clear hw h13 K13 s15 b1 b2 hm2
      go_wp2_with fail
      refine hfl.mono ?_
      rintro e w16 ⟨rfl, n16⟩
      have K16 := n16.below OL.bw h15 K15
      obtain ⟨T16, h16, _, _⟩ := n16
      have hs := bw_steps h16
      clear hfl h15 K15 h16 c1 m15
      go_wp2_with fail
      refine hs.mono ?_
      rintro e w17 ⟨rfl, rfl⟩
      have eS : (((⟨(nwB 2 3).pw, (nwB 2 3).md, (nwB 2 3).g + 1 + 1, (nwB 2 3).ms⟩ : BS).md : Nat) : Int) = 0 := rfl
      rw [eS]
      go_wp2
      go_ret
      exact ⟨rfl, k0.trans K16⟩)
theorem walk (w : World) (a0 : A6) (w0 : A6Ok w a0) :
    Calls Try.prog 6 #[a6V a0] w fun e w' => e = .returned (.bool true) ∧ Kp w w' := by
  exact walkN w a0 w0

set_option maxRecDepth 100000 in
theorem lifted (os : Os) (started : os.Started) (H : Type) (enc : TypeId × Value → H) :
    ReturnsInHanded {} Try.checked os 6 .any (Rows.bayNilSpec.pre6 enc Try.prog Try.f6 Rows.bayNilRow.domain false) (Rows.bayNilSpec.post enc Try.prog Try.f6 false true false false) := by
  refine returnsInHanded_of_change (C := Try.checked) own started (by kernel_rfl) Try.func6
    (ChangeSpec.witness6 (enc := enc) (C := Try.checked) false ⟨#[], #[.agg #[.int .i64 0, .int .i64 0, .int .i64 0, .int .u8 0, .bool false, .slice none 0 0]], []⟩ 8 (by kernel_rfl) (by kernel_rfl) (by kernel_rfl) (by kernel_rfl)) ?_
  intro W base args ds gs before hval0 hW hcnd _
  have hval : ∀ (j : Nat) t v, Try.f6.params[j]? = some t → args[j]? = some v → Value.okWide Try.prog W .any base t v := hval0
  have hW' := hW
  have hlt := hW.lt
  obtain ⟨p, q, hA0, hV, rfl, hfz, hnd⟩ := hW
  have hA : DataW.TrodAll enc Try.prog W 0 (fun _ => true) true Try.f6.params.toList args.toList ds p := hA0
  have hAk := hA
  rw [Try.params6] at hA hval
  obtain ⟨v0, vs0, d0, ds0, p0, q0, hargs, rfl, rfl, h0, r0⟩ := trodAll_cons hA
  obtain ⟨rfl, rfl, rfl⟩ := trodAll_nil r0
  obtain rfl : args = #[v0] := by cases args; simp_all
  obtain ⟨rfl, rfl⟩ := trodVars_none hV
  obtain ⟨a0, rfl, w0⟩ := open_a6 (hval 0 31 v0 rfl rfl) h0
  clear hA0 hval0
  simp only [List.append_nil] at hW' hAk hlt
  refine (walk W a0 w0).mono fun e W' ⟨he, hg⟩ => ?_
  subst he
  exact ⟨_, rfl, post_kp (pv := []) hW' (fun _ _ _ => (trodAll_cons_mk (shut_bool Try.underlying4 _) trodAll_mk0)) (fun sp hsp => trodAll_stays laidOut (by rw [Try.params6]; exact of_decide_eq_true (by kernel_rfl)) hAk (fun x hx => Below.same hg (hlt x hx)) hsp) (fun _ _ => rfl) (by simp) hg⟩

theorem over : Rows.bayNilRow.holds Try.pinned (OpenSpec.ofChange Rows.bayNilSpec) :=
  OpenClaim.holds_of_wide 6 Try.f6 rfl rfl rfl rfl rfl rfl rfl ⟨rfl, rfl, rfl, rfl, rfl⟩ rfl rfl rfl rfl rfl (by kernel_rfl) Try.func6 (by kernel_rfl)
    (of_decide_eq_true (by kernel_rfl)) (by unfold Func.isWrapper; first | (rw [if_pos (by decide +kernel)]; kernel_rfl) | (rw [if_neg (by decide +kernel)]; exact ⟨rfl, rfl⟩))
    (fun os started H enc _ => lifted os started H enc)

end Go.Proofs.Ytmklkdopmemfaaa.bayNil
namespace Go.Proofs.Ytmklkdopmemfaaa
theorem bayNil_holds : Rows.BayNilSaid := bayNil.over
end Go.Proofs.Ytmklkdopmemfaaa
