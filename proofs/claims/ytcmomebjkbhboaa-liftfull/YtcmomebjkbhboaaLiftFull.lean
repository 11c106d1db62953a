/-
  LiftFull: for every input the law answers true, and its arguments read as before. No condition.
-/
import Derived.Test.YtcmomebjkbhboaaRows
import Derived.Test.YtcmomebjkbhboaaBufArgs
import Derived.Test.YtcmomebjkbhboaaLfLaw
import Derived.WalkKit
import Derived.ProofKit
import Derived.OpenShut
import Derived.ShutString
import Derived.Deep.QuietTactic
import Derived.BigQuiet
import Derived.Deep.RegionWith
import Derived.Deep.RegionHeld3
import Derived.Deep.DeepCutAuto
import Derived.Deep.CutBlock
namespace Go.Proofs.Ytcmomebjkbhboaa.liftFull
open Go.ChangeShapes Go.WideShapes Go.ChangeAt Go.RowKit
open Go.ChangeMaps (open_string shut_string)
open Go.Proofs.Ytcmomebjkbhboaa Plain
set_option linter.unusedVariables false

theorem own : ownKnob Try.prog.godebug = none := by kernel_rfl
theorem laidOut : laidOutB Try.prog = true := by kernel_rfl
def fuL (i : Nat) : List Wt := (List.range i).map (fun (k : Nat) => ⟨2 * (k : Int), 0⟩)
theorem fu_len (i : Nat) : (fuL i).length = i := by unfold fuL; simp
theorem fu_mem {i : Nat} {x : Wt} (h : x ∈ fuL i) : ∃ k : Nat, k < i ∧ x = ⟨2 * (k : Int), 0⟩ := by
  unfold fuL at h
  obtain ⟨k, hk, rfl⟩ := List.mem_map.1 h
  exact ⟨k, List.mem_range.1 hk, rfl⟩
theorem fu_has {i k : Nat} (h : k < i) : hsW (fuL i) (2 * (k : Int)) = true := (hs_iff _ _).2 ⟨⟨2 * (k : Int), 0⟩, by unfold fuL; exact List.mem_map.2 ⟨k, List.mem_range.2 h, rfl⟩, rfl⟩
theorem fu_no {i : Nat} {b : Int} (h : ∀ k : Nat, k < i → b ≠ 2 * (k : Int)) : hsW (fuL i) b = false := (hs_not _ _).2 fun x hx => by
  obtain ⟨k, hk, rfl⟩ := fu_mem hx
  exact fun e => h k hk e.symm
theorem fu_next (i : Nat) : fuL (i + 1) = fuL i ++ [⟨2 * (i : Int), 0⟩] := by unfold fuL; rw [List.range_succ, List.map_append]; rfl
theorem fu_add (k : Nat) (hk : k < 256) : adE ⟨fuL k, 5, 0⟩ (2 * (k : Int)) = 0 ∧ adS ⟨fuL k, 5, 0⟩ (2 * (k : Int)) = ⟨fuL (k + 1), 5, 0⟩ := by
  have e : adE ⟨fuL k, 5, 0⟩ (2 * (k : Int)) = 0 := ad_iff.2 ⟨by omega, fu_no (fun j hj => by omega), by show (fuL k).length < 256; rw [fu_len]; omega⟩
  exact ⟨e, by rw [ad_ok e, fu_next]⟩
theorem fu_again (k : Nat) (hk : k < 256) : adE ⟨fuL (k + 1), 5, 0⟩ (2 * (k : Int)) = 11 ∧ adS ⟨fuL (k + 1), 5, 0⟩ (2 * (k : Int)) = ⟨fuL (k + 1), 5, 0⟩ := by
  have e : adE ⟨fuL (k + 1), 5, 0⟩ (2 * (k : Int)) = 11 := by unfold adE; rw [if_neg (by omega), if_pos (fu_has (by omega))]
  exact ⟨e, ad_no (by rw [e]; decide)⟩
theorem fu_over : adE ⟨fuL 256, 5, 0⟩ 1 = 10 ∧ adS ⟨fuL 256, 5, 0⟩ 1 = ⟨fuL 256, 5, 0⟩ := by
  have e : adE ⟨fuL 256, 5, 0⟩ 1 = 10 := by unfold adE; rw [if_neg (by omega), if_neg (by rw [fu_no (fun j hj => by omega)]; decide), if_pos (by show 256 ≤ (fuL 256).length; rw [fu_len]; omega)]
  exact ⟨e, ad_no (by rw [e]; decide)⟩
theorem fu_drop (j : Nat) (hj : j < 256) (hnd : Nd (fuL 256)) : ∃ L1 L2 : List Wt, dlL (fuL 256) (2 * (j : Int)) = L1 ∧ hsW L1 (2 * (j : Int)) = false ∧ dlL L1 (2 * (j : Int)) = L1 ∧ adE ⟨L1, 5, 0⟩ 1 = 0 ∧ adS ⟨L1, 5, 0⟩ 1 = ⟨L2, 5, 0⟩ ∧ L2.length = 256 ∧ ∀ x ∈ L2, x.k ≠ 2 * (j : Int) := by
  obtain ⟨x, hx, ex⟩ := (hs_iff _ _).1 (fu_has hj)
  have hl := dl_len hnd hx ex
  rw [fu_len] at hl
  have hno : ∀ x ∈ dlL (fuL 256) (2 * (j : Int)), x.k ≠ 2 * (j : Int) := fun x hx => by simpa [dlL] using (List.mem_filter.1 hx).2
  have e : adE ⟨dlL (fuL 256) (2 * (j : Int)), 5, 0⟩ 1 = 0 := ad_iff.2 ⟨by omega, (hs_not _ _).2 fun x hx => by
    obtain ⟨k, hk, rfl⟩ := fu_mem (List.mem_filter.1 hx).1
    show 2 * (k : Int) ≠ 1
    omega, by show (dlL _ _).length < 256; omega⟩
  refine ⟨_, _, rfl, (hs_not _ _).2 hno, dl_miss hno, e, ad_ok e, by rw [List.length_append]; simp; omega, fun x hx => ?_⟩
  rcases List.mem_append.1 hx with hx | hx
  · exact hno x hx
  · obtain rfl : x = (⟨1, 0⟩ : Wt) := by simpa using hx
    show (1 : Int) ≠ 2 * (j : Int)
    omega
set_option maxRecDepth 100000 in
set_option maxHeartbeats 4000000 in
theorem walk (w : World) (a0 : Int) (w0 : (Lit.int .i64 a0).wf = true) :
    Calls Try.prog 6 #[.int .i64 a0] w fun e w' => e = .returned (.bool true) ∧ Kp w w' := by
  clear w0
  obtain ⟨mb, hmb⟩ : ∃ mb, mb = max 0 a0 := ⟨_, rfl⟩
  have hmax : ∀ ts t W, (Builtin.max_ ts t #[.int .i64 0, .int .i64 a0]).run Try.prog W = .ok (.int .i64 mb) W := fun ts t W => by rw [hmb]; exact imax ts t 0 a0 W
  obtain ⟨j, hj⟩ : ∃ j : Nat, (j : Int) = mb % 256 := ⟨(mb % 256).toNat, Int.toNat_of_nonneg (Int.emod_nonneg _ (by omega))⟩
  have hj2 : j < 256 := by have := Int.emod_lt_of_pos mb (show (0 : Int) < 256 by omega); omega
  have htm : mb.tmod 256 = (j : Int) := by rw [Int.tmod_eq_emod_of_nonneg (by omega), hj]
  have hN := Lu.new 5 w
  rw [show gA 5 = 5 from rfl] at hN
  clear hmb hj
  go_enter Try.func6, Try.ntmps6
  go_wp2_with fail
  refine hN.mono ?_; rintro e w1 ⟨l, rfl, u1⟩
  have H0 : Hid (Lu w w1 l ⟨fuL 0, 5, 0⟩ 0 []) := u1
  clear hN u1
  go_wp2_with fail
  go_loopw [4, 16] (fun _ i wr => ∃ k : Nat, i = .int .i64 k ∧ k ≤ 256 ∧ Hid (Lu w wr l ⟨fuL k, 5, 0⟩ 0 [])) (fun _ i _ => 256 - (intOf i).toNat)
  case atStart => exact ⟨0, rfl, by omega, H0⟩
  case round =>
    clear H0
    obtain ⟨k, rfl, hk, HQ⟩ := hrel
    by_cases hlt : k < 256
    · have hlt2 : (k : Int) < 256 := by omega
      have hA := HQ.out.add (2 * (k : Int))
      rw [(fu_add k hlt).1, (fu_add k hlt).2] at hA
      go_wp2_with fail
      refine hA.mono ?_; rintro e w2 ⟨rfl, u2, _⟩
      have hB := u2.add (2 * (k : Int))
      rw [(fu_again k hlt).1, (fu_again k hlt).2] at hB
      clear hA u2 HQ
      go_wp2_with fail
      refine hB.mono ?_; rintro e w3 ⟨rfl, u3, _⟩
      have HQ2 := hid u3
      clear hB u3
      go_wp2
      go_roundw
      case rel => exact ⟨k + 1, by go_num, by omega, HQ2⟩
      case measure => simp [intOf]; omega
    · obtain rfl : k = 256 := by omega
      obtain ⟨L1, L2, F1, F2, F3, F4, F5, F6, F7⟩ := fu_drop j hj2 HQ.out.g.nd
      have hA := HQ.out.add 1
      rw [fu_over.1, fu_over.2] at hA
      have HF : Hid (L2.length = 256 ∧ ∀ x ∈ L2, x.k ≠ 2 * (j : Int)) := ⟨F6, F7⟩
      clear HQ F6 F7
      go_wp2_with fail
      refine hA.mono ?_; rintro e w2 ⟨rfl, u2, _⟩
      have hD := u2.drop (2 * (j : Int))
      rw [show hsW (fuL 256) (2 * (j : Int)) = true from fu_has hj2] at hD
      simp only [F1] at hD
      clear hA u2
      go_wp2_with fail
      refine hD.mono ?_; rintro e w3 ⟨rfl, u3, _⟩
      have hD2 := u3.drop (2 * (j : Int))
      simp only [F2, F3] at hD2
      clear hD u3
      go_wp2_with fail
      refine hD2.mono ?_; rintro e w4 ⟨rfl, u4, _⟩
      have hA2 := u4.add 1
      rw [F4, F5] at hA2
      clear hD2 u4 F1 F2 F3 F4 F5
      go_wp2_with fail
      refine hA2.mono ?_; rintro e w5 ⟨rfl, u5, _⟩
      have H1 : Hid (∃ S, Lu w w5 l S ((0 : Nat) : Int) [] ∧ S.L.length = 256 - 0 ∧ ∀ x ∈ S.L, x.k ≠ 2 * (j : Int)) := ⟨_, u5, by rw [HF.out.1], HF.out.2⟩
      clear hA2 u5 HF
      go_wp2_with fail
      go_loopw [8, 9, 53] (fun _ _ i wr => ∃ i' : Nat, i = .int .i64 i' ∧ i' ≤ 256 ∧ Hid (∃ S, Lu w wr l S (i' : Int) [] ∧ S.L.length = 256 - i' ∧ ∀ x ∈ S.L, x.k ≠ 2 * (j : Int))) (fun _ _ i _ => 256 - (intOf i).toNat)
      case atStart => exact ⟨0, rfl, by omega, H1⟩
      case round =>
        clear H1
        obtain ⟨i, rfl, hi, HQ⟩ := hrel
        by_cases hlt : i < 256
        · obtain ⟨S, u6, s1, s2⟩ := HQ.out
          have hlt2 : (i : Int) < 256 := by omega
          have hP := u6.pick (by omega) (by omega)
          have HS : Hid (S.L.length = 256 - i ∧ (∀ x ∈ S.L, x.k ≠ 2 * (j : Int)) ∧ Nd S.L) := ⟨s1, s2, u6.g.nd⟩
          clear u6 s1 s2 HQ
          go_wp2_with fail
          refine hP.mono ?_; rintro e w6 ⟨k, rfl, hx, u7, _⟩
          obtain ⟨s1, s2, s3⟩ := HS.out
          obtain ⟨x, hx1, hx2⟩ := hx.1
          have hne : k ≠ 2 * (j : Int) := by rw [← hx2]; exact s2 x hx1
          have hkj : (k == 2 * (j : Int)) = false := by simpa using hne
          have hdl := dl_len s3 hx1 hx2
          have HQ2 : Hid (∃ S, Lu w w6 l S ((i + 1 : Nat) : Int) [] ∧ S.L.length = 256 - (i + 1) ∧ ∀ x ∈ S.L, x.k ≠ 2 * (j : Int)) := by
            refine ⟨_, u7, ?_, fun y hy => ?_⟩
            · show ((dlL S.L k).map incW).length = _
              rw [List.length_map]; omega
            · obtain ⟨z, hz, rfl⟩ := List.mem_map.1 hy
              exact s2 z (List.mem_filter.1 hz).1
          clear hP hx u7 s1 s2 s3 hx1 hx2 hne hdl HS
          go_wp2
          go_roundw
          case rel => exact ⟨i + 1, by go_num, by omega, HQ2⟩
          case measure => simp [intOf]; omega
        · obtain rfl : i = 256 := by omega
          obtain ⟨S, u6, s1, s2⟩ := HQ.out
          have HU := hid (And.intro u6 s1)
          clear HQ u6 s1 s2
          go_wp2_with fail
          refine (npick _).mono ?_; rintro e w6 ⟨rfl, k6⟩
          go_wp2_with fail
          refine (nwaited a0 _).mono ?_; rintro e w7 ⟨rfl, k7⟩
          go_wp2_with fail
          refine (wakes_any _).mono ?_; rintro e w8 ⟨rfl, k8⟩
          have hL := ((HU.out.1.kp ((k6.trans k7).trans k8)).1).len
          rw [HU.out.2] at hL
          clear k6 k7 k8 HU
          go_wp2_with fail
          refine hL.mono ?_; rintro e w9 ⟨rfl, u9, _⟩
          have HK := hid u9.k
          clear hL u9
          go_wp2_with fail
          refine (nadd a0 _).mono ?_; rintro e v1 ⟨rfl, j1⟩
          go_wp2_with fail
          refine (ndrop a0 _).mono ?_; rintro e v2 ⟨rfl, j2⟩
          go_wp2_with fail
          refine (nlen _).mono ?_; rintro e v3 ⟨rfl, j3⟩
          go_wp2_with fail
          refine (nkeys _).mono ?_; rintro e v4 ⟨rfl, j4⟩
          go_wp2_with fail
          refine (nhead _).mono ?_; rintro e v5 ⟨rfl, j5⟩
          have HE := hid (((((HK.out.trans j1).trans j2).trans j3).trans j4).trans j5)
          clear j1 j2 j3 j4 j5 HK
          go_wp2
          go_ret
          exact ⟨by simp, HE.out⟩

set_option maxRecDepth 100000 in
theorem lifted (os : Os) (started : os.Started) (H : Type) (enc : TypeId × Value → H) :
    ReturnsInHanded {} Try.checked os 6 .any (Rows.liftFullSpec.pre6 enc Try.prog Try.f6 Rows.liftFullRow.domain false) (Rows.liftFullSpec.post enc Try.prog Try.f6 false true false false) := by
  refine returnsInHanded_of_change (C := Try.checked) own started (by kernel_rfl) Try.func6
    (ChangeSpec.witness6 (enc := enc) (C := Try.checked) false ⟨#[], #[.int .i64 0], []⟩ 8 (by kernel_rfl) (by kernel_rfl) (by kernel_rfl) (by kernel_rfl)) ?_
  intro W base args ds gs before hval0 hW hcnd _
  have hval : ∀ (j : Nat) t v, Try.f6.params[j]? = some t → args[j]? = some v → Value.okWide Try.prog W .any base t v := hval0
  have hW' := hW
  have hlt := hW.lt
  obtain ⟨p, q, hA0, hV, rfl, hfz, hnd⟩ := hW
  have hA : DataW.TrodAll enc Try.prog W 0 (fun _ => true) true Try.f6.params.toList args.toList ds p := hA0
  have hAk := hA
  rw [Try.params6] at hA hval
  obtain ⟨v0, vs0, d0, ds0, p0, q0, hargs, rfl, rfl, h0, r0⟩ := trodAll_cons hA
  obtain ⟨rfl, rfl, rfl⟩ := trodAll_nil r0
  obtain rfl : args = #[v0] := by cases args; simp_all
  obtain ⟨rfl, rfl⟩ := trodVars_none hV
  obtain ⟨a0, rfl, rfl, rfl, w0⟩ := open_int Try.underlying3 (hval 0 3 v0 rfl rfl) h0
  clear hA0 hval0
  simp only [List.append_nil] at hW' hAk hlt
  refine (walk W a0 w0).mono fun e W' ⟨he, hg⟩ => ?_
  subst he
  exact ⟨_, rfl, post_kp (pv := []) hW' (fun _ _ _ => (trodAll_cons_mk (shut_bool Try.underlying4 _) trodAll_mk0)) (fun sp hsp => trodAll_stays laidOut (by rw [Try.params6]; exact of_decide_eq_true (by kernel_rfl)) hAk (fun x hx => Below.same hg (hlt x hx)) hsp) (fun _ _ => rfl) (by simp) hg⟩

theorem over : Rows.liftFullRow.holds Try.pinned (OpenSpec.ofChange Rows.liftFullSpec) :=
  OpenClaim.holds_of_wide 6 Try.f6 rfl rfl rfl rfl rfl rfl rfl ⟨rfl, rfl, rfl, rfl, rfl⟩ rfl rfl rfl rfl rfl (by kernel_rfl) Try.func6 (by kernel_rfl)
    (of_decide_eq_true (by kernel_rfl)) (by unfold Func.isWrapper; first | (rw [if_pos (by decide +kernel)]; kernel_rfl) | (rw [if_neg (by decide +kernel)]; exact ⟨rfl, rfl⟩))
    (fun os started H enc _ => lifted os started H enc)

end Go.Proofs.Ytcmomebjkbhboaa.liftFull
namespace Go.Proofs.Ytcmomebjkbhboaa
theorem liftFull_holds : Rows.LiftFullSaid := liftFull.over
end Go.Proofs.Ytcmomebjkbhboaa
