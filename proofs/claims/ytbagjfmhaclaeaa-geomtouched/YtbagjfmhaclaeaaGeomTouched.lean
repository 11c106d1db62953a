/-
  For every geometry and every first block and count the law function GeomTouched returns true (Go: trunnionlaw09.GeomTouched). No condition.
-/
import Derived.Test.YtbagjfmhaclaeaaRows
import Derived.Test.YtbagjfmhaclaeaaBufArgs
import Derived.Test.YtbagjfmhaclaeaaGmArgs
import Derived.WalkKit
import Derived.ProofKit
import Derived.OpenShut
import Derived.ShutString
import Derived.Deep.QuietTactic
import Derived.BigQuiet
import Derived.Deep.RegionWith
import Derived.Deep.RegionHeld3
import Derived.Deep.DeepCutAuto
import Derived.Deep.CutBlock
namespace Go.Proofs.Ytbagjfmhaclaeaa.geomTouched
open Go.ChangeShapes Go.WideShapes Go.ChangeAt Go.RowKit
open Go.ChangeMaps (open_string shut_string)
open Go.Proofs.Ytbagjfmhaclaeaa Plain
set_option linter.unusedVariables false

theorem own : ownKnob Try.prog.godebug = none := by kernel_rfl
theorem laidOut : laidOutB Try.prog = true := by kernel_rfl
theorem cellsI : Try.prog.cellsOf 3 = 1 := by kernel_rfl
theorem cellsR : Try.prog.cellsOf 23 = 2 := by kernel_rfl
set_option maxRecDepth 100000 in
set_option maxHeartbeats 4000000 in
theorem walkN (w : World) (n s y z : Int) :
    Calls Try.prog 6 #[.agg #[.int .i64 n, .int .i64 s], .int .i64 y, .int .i64 z] w fun e w' => e = .returned (.bool true) ∧ Kp w w' := by
  have hM := made_any n s
  unfold gV at hM
  obtain ⟨N, eN⟩ : ∃ N, N = gN n := ⟨_, rfl⟩
  obtain ⟨S, eS⟩ : ∃ S, S = gS s := ⟨_, rfl⟩
  rw [← eN, ← eS] at hM
  have HM : Hid (∀ w', Calls Try.prog 16 #[.agg #[.int .i64 n, .int .i64 s]] w' fun e w'' => e = .returned (.agg #[.int .i64 N, .int .i64 S]) ∧ Kp w' w'') := hM
  clear hM eN eS
  obtain ⟨w0, hw0⟩ : ∃ w0, w0 = (w.alloc (.cells #[.int .i64 n, .int .i64 s] 23)) := ⟨_, rfl⟩
  have HW : Hid (w0 = (w.alloc (.cells #[.int .i64 n, .int .i64 s] 23))) := hw0
  have k0 : Kp w w0 := by rw [hw0]; exact (Kp.refl w).alloc _
  have r0 : w0.cell? ⟨w.heap.size, 0, none⟩ = some (.int .i64 n) := by rw [hw0]; simp
  have r1 : w0.cell? ⟨w.heap.size, 1, none⟩ = some (.int .i64 s) := by rw [hw0]; simp
  have hb0 : w.heap.size < w0.heap.size := World.block_lt_of_cell? _ _ r0
  have K0 : Hid (Kp w w0) := k0
  clear hw0 k0
  have hm2 := mask255 y
  have hm3 := mask127 z
  obtain ⟨ym, eym⟩ : ∃ ym, y % 256 = ym := ⟨_, rfl⟩
  obtain ⟨zm, ezm⟩ : ∃ zm, z % 128 = zm := ⟨_, rfl⟩
  rw [eym] at hm2
  rw [ezm] at hm3
  clear eym ezm
  go_enter Try.func6, Try.ntmps6
  go_wp2_with fail
  rw [← HW.out]
  clear HW
  go_cut [19, 20, 21] (fun p q i wx => ∃ g, p = .slice (some ⟨g, 0, none⟩) 2 2 ∧ q = .int .i64 2 ∧ i = .int .i64 0 ∧ (wx.cell? ⟨g, 0, none⟩ = some (.int .i64 n) ∧ wx.cell? ⟨g, 1, none⟩ = some (.int .i64 s) ∧ wx.cell? ⟨g, 2, none⟩ = some (.int .i64 N) ∧ wx.cell? ⟨g, 3, none⟩ = some (.int .i64 S)) ∧ Kp w0 wx)
  case first =>
    go_region_held3 (fun W => W.cell? ⟨w.heap.size, 0, none⟩ = some (.int .i64 n) ∧ W.cell? ⟨w.heap.size, 1, none⟩ = some (.int .i64 s)) (first | go_keep | exact ⟨r0, r1⟩ | exact ⟨f0, f1⟩ | exact ⟨((Kp.refl _).alloc _).held f0, ((Kp.refl _).alloc _).held f1⟩)
      (first
      | (go_at_call 16; refine (HM.out _).mono ?_; rintro e w1 ⟨rfl, k1⟩; have f0 : w1.cell? ⟨w.heap.size, 0, none⟩ = some (.int .i64 n) := k1.held (((Kp.refl _).drew).held r0); have f1 : w1.cell? ⟨w.heap.size, 1, none⟩ = some (.int .i64 s) := k1.held (((Kp.refl _).drew).held r1); have K1 : Kp w0 w1 := (Kp.refl w0).drew.trans k1; clear k1))
    go_wp2_with fail
    go_meet
    exact ⟨_, rfl, rfl, rfl, ⟨by rw [World.cell?_alloc_at _ _ _ _ rfl]; rfl, by rw [World.cell?_alloc_at _ _ _ _ rfl]; rfl, by rw [World.cell?_alloc_at _ _ _ _ rfl]; rfl, by rw [World.cell?_alloc_at _ _ _ _ rfl]; rfl⟩, K1.alloc _⟩
  obtain ⟨g, rfl, rfl, rfl, ⟨q0, q1, q2, q3⟩, k3⟩ := hcut
  obtain ⟨w3, hw3⟩ : ∃ w3, w3 = wc := ⟨_, rfl⟩
  rw [← hw3] at q0 q1 q2 q3 k3 ⊢
  have K3 : Hid (Kp w w3) := K0.out.trans k3
  have K3b : Hid (Kp w0 w3) := k3
  have HQ : Hid (∀ k : Nat, k < 2 → ∃ A B : Int, w3.cell? ⟨g, k * 2, none⟩ = some (.int .i64 A) ∧ w3.cell? ⟨g, k * 2 + 1, none⟩ = some (.int .i64 B)) := fun k hk => by
    have h : k = 0 ∨ k = 1 := by omega
    rcases h with rfl | rfl
    · exact ⟨_, _, q0, q1⟩
    · exact ⟨_, _, q2, q3⟩
  clear hw3 k3 q0 q1 q2 q3 HM K0
  go_wp2
  go_loopw [21] (fun i wr => ∃ k : Nat, k ≤ 2 ∧ i = .int .i64 k ∧ Kp w3 wr) (fun i _ => 2 - (intOf i).toNat)
  case atStart => exact ⟨0, by omega, rfl, Kp.refl w3⟩
  case round =>
    obtain ⟨k, hk, rfl, hK⟩ := hrel
    by_cases hlt : k < 2
    · have hdk : decide ((k : Int) < 2) = true := decide_eq_true (by omega)
      obtain ⟨A, B, c0, c1⟩ := HQ.out k hlt
      have d0 := hK.held c0
      have d1 := hK.held c1
      clear c0 c1
      obtain ⟨wv, hwv⟩ : ∃ wv, wv = ((wr.alloc (.cells #[.int .i64 A, .int .i64 B] 24)).alloc (.cells #[.int .i64 A, .int .i64 B] 25)).alloc (.cells #[.int .i64 y, .int .i64 z, .int .i64 ym, .int .i64 zm] 31) := ⟨_, rfl⟩
      have HWV : Hid (wv = ((wr.alloc (.cells #[.int .i64 A, .int .i64 B] 24)).alloc (.cells #[.int .i64 A, .int .i64 B] 25)).alloc (.cells #[.int .i64 y, .int .i64 z, .int .i64 ym, .int .i64 zm] 31)) := hwv
      have KV : Hid (Kp wr wv) := by rw [hwv]; exact (((Kp.refl wr).alloc _).alloc _).alloc _
      obtain ⟨gv, hgv⟩ : ∃ gv, gv = wr.heap.size := ⟨_, rfl⟩
      have HV : Hid (∀ W, Kp wv W → W.cell? ⟨gv, 0, none⟩ = some (.int .i64 A) ∧ W.cell? ⟨gv, 1, none⟩ = some (.int .i64 B) ∧ W.cell? ⟨gv + 1, 0, none⟩ = some (.int .i64 A) ∧ W.cell? ⟨gv + 1, 1, none⟩ = some (.int .i64 B)) := fun W k => by
        refine ⟨k.held ?_, k.held ?_, k.held ?_, k.held ?_⟩
        · rw [hwv, hgv]; exact (((Kp.refl _).alloc _).alloc _).held (by rw [World.cell?_alloc_at _ _ _ _ rfl]; rfl)
        · rw [hwv, hgv]; exact (((Kp.refl _).alloc _).alloc _).held (by rw [World.cell?_alloc_at _ _ _ _ rfl]; rfl)
        · rw [hwv, hgv]; exact ((Kp.refl _).alloc _).held (by rw [World.cell?_alloc_at _ _ _ _ (by simp)]; rfl)
        · rw [hwv, hgv]; exact ((Kp.refl _).alloc _).held (by rw [World.cell?_alloc_at _ _ _ _ (by simp)]; rfl)
      have hvb : InB wv (gv + 1 + 1) [y, z, ym, zm] := by
        rw [hwv, hgv]
        have := InB.new ((wr.alloc (.cells #[.int .i64 A, .int .i64 B] 24)).alloc (.cells #[.int .i64 A, .int .i64 B] 25)) [y, z, ym, zm] 31
        simpa using this
      have HVB : Hid (InB wv (gv + 1 + 1) [y, z, ym, zm]) := hvb
      clear hvb
      have hgv2 := hgv.symm
      clear hwv hgv
      have HUB : Hid (∀ j : Nat, j < 2 → ∃ C D : Int, wv.cell? ⟨gv + 1 + 1, j * 2, none⟩ = some (.int .i64 C) ∧ wv.cell? ⟨gv + 1 + 1, j * 2 + 1, none⟩ = some (.int .i64 D)) := fun j hj => ⟨_, _, HVB.out (j * 2) (by simp; omega), HVB.out (j * 2 + 1) (by simp; omega)⟩
      go_wp2
      rw [← HWV.out]
      clear HWV d0 d1
      go_loopw [36] (fun i wr => ∃ j : Nat, j ≤ 2 ∧ i = .int .i64 j ∧ Kp wv wr) (fun i _ => 2 - (intOf i).toNat)
      case atStart => exact ⟨0, by omega, rfl, Kp.refl wv⟩
      case round =>
        obtain ⟨j, hj, rfl, hJ⟩ := hrel
        obtain ⟨e0, e1, e2, e3⟩ := HV.out _ hJ
        by_cases hlt2 : j < 2
        · obtain ⟨C, D, p0, p1⟩ := HUB.out j hlt2
          have f0 := hJ.held p0
          have f1 := hJ.held p1
          have hb1 : gv < wr.heap.size := World.block_lt_of_cell? _ _ e0
          have hb2 : gv + 1 < wr.heap.size := World.block_lt_of_cell? _ _ e2
          clear p0 p1
          have h1 := touched_any A B C D
          have h2 := rtouched_any A B C D
          obtain ⟨⟨L, r⟩, hR⟩ : ∃ X, X = tch A B C D := ⟨_, rfl⟩
          rw [← hR] at h1 h2
          unfold gV at h1 h2
          simp only at h1 h2
          clear hR
          go_wp2_with fail
          refine (h1 _).mono ?_; rintro e wa ⟨l, rfl, hl, ka⟩
          have z0 : wa.cell? ⟨wr.heap.size, 0, none⟩ = some (.int .i64 C) := ka.held (by simp)
          have z1 : wa.cell? ⟨wr.heap.size, 1, none⟩ = some (.int .i64 D) := ka.held (by simp)
          have kk : Kp wr wa := ((Kp.refl wr).alloc _).trans ka
          have e0' := kk.held e0
          have e1' := kk.held e1
          have e2' := kk.held e2
          have e3' := kk.held e3
          have Kwa : Hid (Kp wv wa) := hJ.trans kk
          have HL : Hid (InI wa l L) := hl
          clear hl
          clear e0 e1 e2 e3 ka kk h1 f0 f1 hJ
          have e0 := e0'
          have e1 := e1'
          have e2 := e2'
          have e3 := e3'
          clear e0' e1' e2' e3'
          go_wp2_with fail
          refine (h2 _).mono ?_; rintro e wb ⟨m, rfl, hm, kk⟩
          have e0' := kk.held e0
          have e1' := kk.held e1
          have e2' := kk.held e2
          have e3' := kk.held e3
          have z0' := kk.held z0
          have z1' := kk.held z1
          have Kwb : Hid (Kp wv wb) := Kwa.out.trans kk
          have HE : Hid (InI wb l L ∧ InI wb m L) := ⟨HL.out.kept kk, hm⟩
          clear hm HL
          clear e0 e1 e2 e3 z0 z1 kk h2
          have e0 := e0'
          have e1 := e1'
          have e2 := e2'
          have e3 := e3'
          have z0 := z0'
          have z1 := z1'
          clear e0' e1' e2' e3' z0' z1'
          have hEq := equal_any l m L L wb HE.out.1 HE.out.2
          rw [show decide (L = L) = true from decide_eq_true rfl] at hEq
          clear HE
          go_wp2_with fail
          refine hEq.mono ?_; rintro e wj ⟨rfl, kj⟩
          have KJ : Kp wv wj := Kwb.out.trans kj
          clear hEq kj e0 e1 e2 e3 z0 z1
          go_wp2
          go_roundw
          case rel => exact ⟨j + 1, by omega, by go_num, KJ⟩
          case measure => simp [intOf]; omega
        · have KE : Kp w3 wr := (hK.trans KV.out).trans hJ
          go_wp2
          go_roundw
          case rel => exact ⟨k + 1, by omega, by go_num, KE⟩
          case measure => simp [intOf]; omega
    · obtain rfl : k = 2 := by omega
      go_wp2_with fail
      refine (wakes_any wr).mono ?_; rintro e w9 ⟨rfl, k9⟩
      have K9 := (K3.out.trans hK).trans k9
      clear k9
      go_wp2
      go_ret
      exact ⟨rfl, K9⟩
theorem walk (w : World) (a0 b0 : Int) (a1 : Int) (a2 : Int) (w0 : (Lit.int .i64 a0).wf = true) (x0 : (Lit.int .i64 b0).wf = true) (w1 : (Lit.int .i64 a1).wf = true) (w2 : (Lit.int .i64 a2).wf = true) :
    Calls Try.prog 6 #[.agg #[.int .i64 a0, .int .i64 b0], .int .i64 a1, .int .i64 a2] w fun e w' => e = .returned (.bool true) ∧ Kp w w' := by
  exact walkN w a0 b0 a1 a2

set_option maxRecDepth 100000 in
theorem lifted (os : Os) (started : os.Started) (H : Type) (enc : TypeId × Value → H) :
    ReturnsInHanded {} Try.checked os 6 .any (Rows.geomTouchedSpec.pre6 enc Try.prog Try.f6 Rows.geomTouchedRow.domain false) (Rows.geomTouchedSpec.post enc Try.prog Try.f6 false true false false) := by
  refine returnsInHanded_of_change (C := Try.checked) own started (by kernel_rfl) Try.func6
    (ChangeSpec.witness6 (enc := enc) (C := Try.checked) false ⟨#[], #[.agg #[.int .i64 0, .int .i64 0], .int .i64 0, .int .i64 0], []⟩ 8 (by kernel_rfl) (by kernel_rfl) (by kernel_rfl) (by kernel_rfl)) ?_
  intro W base args ds gs before hval0 hW hcnd _
  have hval : ∀ (j : Nat) t v, Try.f6.params[j]? = some t → args[j]? = some v → Value.okWide Try.prog W .any base t v := hval0
  have hW' := hW
  have hlt := hW.lt
  obtain ⟨p, q, hA0, hV, rfl, hfz, hnd⟩ := hW
  have hA : DataW.TrodAll enc Try.prog W 0 (fun _ => true) true Try.f6.params.toList args.toList ds p := hA0
  have hAk := hA
  rw [Try.params6] at hA hval
  obtain ⟨v0, vs0, d0, ds0, p0, q0, hargs, rfl, rfl, h0, r0⟩ := trodAll_cons hA
  obtain ⟨v1, vs1, d1, ds1, p1, q1, rfl, rfl, rfl, h1, r1⟩ := trodAll_cons r0
  obtain ⟨v2, vs2, d2, ds2, p2, q2, rfl, rfl, rfl, h2, r2⟩ := trodAll_cons r1
  obtain ⟨rfl, rfl, rfl⟩ := trodAll_nil r2
  obtain rfl : args = #[v0, v1, v2] := by cases args; simp_all
  obtain ⟨rfl, rfl⟩ := trodVars_none hV
  obtain ⟨a0, b0, rfl, w0, x0⟩ := open_span Try.underlying23 cellsR rfl rfl cellsI cellsI Try.underlying3 Try.underlying3 (hval 0 23 v0 rfl rfl) h0
  obtain ⟨a1, rfl, rfl, rfl, w1⟩ := open_int Try.underlying3 (hval 1 3 v1 rfl rfl) h1
  obtain ⟨a2, rfl, rfl, rfl, w2⟩ := open_int Try.underlying3 (hval 2 3 v2 rfl rfl) h2
  clear hA0 hval0
  simp only [List.append_nil] at hW' hAk hlt
  refine (walk W a0 b0 a1 a2 w0 x0 w1 w2).mono fun e W' ⟨he, hg⟩ => ?_
  subst he
  exact ⟨_, rfl, post_kp (pv := []) hW' (fun _ _ _ => (trodAll_cons_mk (shut_bool Try.underlying4 _) trodAll_mk0)) (fun sp hsp => trodAll_stays laidOut (by rw [Try.params6]; exact of_decide_eq_true (by kernel_rfl)) hAk (fun x hx => Below.same hg (hlt x hx)) hsp) (fun _ _ => rfl) (by simp) hg⟩

theorem over : Rows.geomTouchedRow.holds Try.pinned (OpenSpec.ofChange Rows.geomTouchedSpec) :=
  OpenClaim.holds_of_wide 6 Try.f6 rfl rfl rfl rfl rfl rfl rfl ⟨rfl, rfl, rfl, rfl, rfl⟩ rfl rfl rfl rfl rfl (by kernel_rfl) Try.func6 (by kernel_rfl)
    (of_decide_eq_true (by kernel_rfl)) (by unfold Func.isWrapper; first | (rw [if_pos (by decide +kernel)]; kernel_rfl) | (rw [if_neg (by decide +kernel)]; exact ⟨rfl, rfl⟩))
    (fun os started H enc _ => lifted os started H enc)

end Go.Proofs.Ytbagjfmhaclaeaa.geomTouched
namespace Go.Proofs.Ytbagjfmhaclaeaa
theorem geomTouched_holds : Rows.GeomTouchedSaid := geomTouched.over
end Go.Proofs.Ytbagjfmhaclaeaa
