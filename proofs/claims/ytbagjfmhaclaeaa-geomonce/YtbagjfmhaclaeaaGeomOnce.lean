/-
  For every geometry the law function GeomOnce returns true (Go: trunnionlaw09.GeomOnce). No condition.
-/
import Derived.Test.YtbagjfmhaclaeaaRows
import Derived.Test.YtbagjfmhaclaeaaBufArgs
import Derived.Test.YtbagjfmhaclaeaaGmMaps
import Derived.WalkKit
import Derived.ProofKit
import Derived.OpenShut
import Derived.ShutString
import Derived.Deep.QuietTactic
import Derived.BigQuiet
import Derived.Deep.RegionWith
import Derived.Deep.RegionHeld3
import Derived.Deep.DeepCutAuto
import Derived.Deep.CutBlock
namespace Go.Proofs.Ytbagjfmhaclaeaa.geomOnce
open Go.ChangeShapes Go.WideShapes Go.ChangeAt Go.RowKit
open Go.ChangeMaps (open_string shut_string)
open Go.Proofs.Ytbagjfmhaclaeaa Plain
set_option linter.unusedVariables false

theorem own : ownKnob Try.prog.godebug = none := by kernel_rfl
theorem laidOut : laidOutB Try.prog = true := by kernel_rfl
theorem cellsI : Try.prog.cellsOf 3 = 1 := by kernel_rfl
theorem cellsR : Try.prog.cellsOf 23 = 2 := by kernel_rfl
/-- the member and the sector of a block. -/
def keyV (N : Int) (j : Nat) : Value := .agg #[.int .i64 (mM N ((j : Int) / (N - 2)) ((j : Int) % (N - 2))), .int .i64 (100 + (j : Int) / (N - 2))]
theorem keyV_inj {N : Int} {j k : Nat} (hN : 4 ≤ N) (h : keyV N j = keyV N k) : j = k := by
  have d1 := div_facts (b := (j : Int)) (k := N - 2) (by omega) (by omega)
  have d2 := div_facts (b := (k : Int)) (k := N - 2) (by omega) (by omega)
  unfold keyV at h
  simp only [Value.agg.injEq, Array.mk.injEq, List.cons.injEq, Value.int.injEq, true_and, and_true] at h
  obtain ⟨h1, h2⟩ := h
  have e1 : (j : Int) / (N - 2) = (k : Int) / (N - 2) := by omega
  rw [e1] at h1 d1
  have e2 := mM_inj (by omega) (by omega) (by omega) (by omega) h1
  omega
theorem once_facts {N S : Int} (hg : gg N S = true) {k : Nat} (hk : (k : Int) < bI N S) : ∃ t c : Int, fnd N S k = (t, c, 0) ∧ blk N S t c = ((k : Int), 0) ∧ mem N S t c = (mM N t c, 0) ∧ sec N S t = (100 + t, 0) ∧ keyV N k = .agg #[.int .i64 (mM N t c), .int .i64 (100 + t)] ∧ 0 ≤ t ∧ t < 64 ∧ 0 ≤ mM N t c ∧ mM N t c < N := by
  obtain ⟨g1, g2, g3, g4⟩ := (gg_iff N S).1 hg
  rw [show bI N S = (N - 2) * S from if_pos hg] at hk
  have d := div_facts (b := (k : Int)) (k := N - 2) (by omega) (by omega)
  have hl := div_lt (b := (k : Int)) (k := N - 2) (s := S) (by omega) (by omega) hk
  have hm := mM_bd ((k : Int) / (N - 2)) ((k : Int) % (N - 2)) (n := N) (by omega)
  refine ⟨(k : Int) / (N - 2), (k : Int) % (N - 2), (if_pos hg).trans (if_pos ⟨by omega, hk⟩), ?_, (if_pos hg).trans (if_pos (by omega)), (if_pos hg).trans (if_pos (by omega)), rfl, by omega, by omega, hm.1, hm.2⟩
  rw [show blk N S _ _ = _ from (if_pos hg).trans (if_pos (by omega)), d.2.2.2.2]
theorem col_facts {N S t : Int} (hg : gg N S = true) (h1 : 0 ≤ t) (h2 : t < S) {c : Nat} (hc : (c : Int) < N) : col N S t (mM N t c) = ((c : Int), 0) := by
  obtain ⟨g1, g2, g3, g4⟩ := (gg_iff N S).1 hg
  have hm := mM_bd t (c : Int) (n := N) (by omega)
  rw [show col N S t (mM N t c) = _ from (if_pos hg).trans (if_pos (by omega)), cm_inv N t c (by omega) hc]
set_option maxRecDepth 100000 in
set_option maxHeartbeats 4000000 in
theorem walkN (w : World) (n s : Int) :
    Calls Try.prog 7 #[.agg #[.int .i64 n, .int .i64 s]] w fun e w' => e = .returned (.bool true) ∧ Kp w w' := by
  have hM := made_any n s
  have HE : Hid (gg (gN n) (gS s) = true) := gg_made n s
  have hn := gN_bd n
  have hs := gS_bd s
  unfold gV at hM
  obtain ⟨N, eN⟩ : ∃ N, N = gN n := ⟨_, rfl⟩
  obtain ⟨S, eS⟩ : ∃ S, S = gS s := ⟨_, rfl⟩
  rw [← eN] at hM HE hn
  rw [← eS] at hM HE hs
  obtain ⟨n1, n2⟩ := hn
  obtain ⟨s1, s2⟩ := hs
  clear eN eS
  have hmm := @run_makeMap Try.prog
  go_enter Try.func7, Try.ntmps7
  go_wp2_with fail
  refine (hM _).mono ?_; rintro e w1 ⟨rfl, k1⟩
  have K1 : Hid (Kp w w1) := ((Kp.refl w).alloc _).trans k1
  clear hM k1
  obtain ⟨M, rfl⟩ : ∃ M : Nat, N = M := ⟨N.toNat, by omega⟩
  obtain ⟨Q, rfl⟩ : ∃ Q : Nat, S = Q := ⟨S.toNat, by omega⟩
  have hBl := blocks_any (M : Int) (Q : Int)
  unfold gV at hBl
  have hbb := bI_bd (M : Int) (Q : Int)
  obtain ⟨B, eB⟩ : ∃ B : Nat, bI (M : Int) (Q : Int) = B := ⟨(bI (M : Int) (Q : Int)).toNat, by omega⟩
  have EB : Hid (bI (M : Int) (Q : Int) = B) := eB
  rw [eB] at hBl hbb
  have hB2 : B ≤ 1920 := by omega
  obtain ⟨w2, hw2⟩ : ∃ w2, w2 = (w1.alloc (.cells #[.int .i64 (M : Int), .int .i64 (Q : Int)] 24)).alloc (.map #[] 0) := ⟨_, rfl⟩
  have HW2 : Hid (w2 = (w1.alloc (.cells #[.int .i64 (M : Int), .int .i64 (Q : Int)] 24)).alloc (.map #[] 0)) := hw2
  obtain ⟨gb, hgb⟩ : ∃ gb, gb = w1.heap.size := ⟨_, rfl⟩
  have HP : Hid (SetM w2 31 (gb + 1) 0 (fun _ => False)) := by
    rw [hw2, hgb]
    have h1 := SetM.made (w1.alloc (.cells #[.int .i64 (M : Int), .int .i64 (Q : Int)] 24)) 31
    rw [show (w1.alloc (.cells #[.int .i64 (M : Int), .int .i64 (Q : Int)] 24)).heap.size = w1.heap.size + 1 by simp] at h1
    exact h1
  have c0 : w2.cell? ⟨gb, 0, none⟩ = some (.int .i64 (M : Int)) := by
    rw [hw2, hgb]
    exact ((Kp.refl _).alloc _).held (by rw [World.cell?_alloc_at _ _ _ _ rfl]; rfl)
  have c1 : w2.cell? ⟨gb, 1, none⟩ = some (.int .i64 (Q : Int)) := by
    rw [hw2, hgb]
    exact ((Kp.refl _).alloc _).held (by rw [World.cell?_alloc_at _ _ _ _ rfl]; rfl)
  have K2 : Hid (Kp w w2) := by rw [hw2]; exact (K1.out.alloc _).alloc _
  have hgw : w.heap.size ≤ gb := by rw [hgb]; exact K1.out.size
  have hgb2 := hgb.symm
  clear hw2 hgb K1 eB hbb
  go_wp2_with fail
  rw [← HW2.out]
  refine (hBl _).mono ?_; rintro e w3 ⟨rfl, k3⟩
  have HP3 : Hid (SetM w3 31 (gb + 1) 0 (fun _ => False)) := HP.out.kept k3
  have HC3 : Hid (w3.cell? ⟨gb, 0, none⟩ = some (.int .i64 (M : Int)) ∧ w3.cell? ⟨gb, 1, none⟩ = some (.int .i64 (Q : Int))) := ⟨k3.held c0, k3.held c1⟩
  have K3 : Hid (Kp w w3) := K2.out.trans k3
  have HBL : Hid (∀ w', Calls Try.prog 13 #[.agg #[.int .i64 (M : Int), .int .i64 (Q : Int)]] w' fun e w'' => e = .returned (.int .i64 (B : Int)) ∧ Kp w' w'') := hBl
  clear HW2 hgb2 HP c0 c1 K2 k3 hBl
  go_wp2
  go_loopw [28] (fun i wr => ∃ k : Nat, k ≤ B ∧ i = .int .i64 (k : Int) ∧ Hid (SetM wr 31 (gb + 1) k (fun v => ∃ j : Nat, j < k ∧ v = keyV M j)) ∧ Hid (wr.cell? ⟨gb, 0, none⟩ = some (.int .i64 (M : Int)) ∧ wr.cell? ⟨gb, 1, none⟩ = some (.int .i64 (Q : Int))) ∧ Kp w wr) (fun i _ => B - (intOf i).toNat)
  case atStart => exact ⟨0, by omega, rfl, HP3.out.sub (fun _ h => h.elim), HC3, K3.out⟩
  case round =>
    clear HP3 HC3 K3
    obtain ⟨k, hk, rfl, HP, HC, hK⟩ := hrel
    obtain ⟨c0, c1⟩ := HC.out
    by_cases hlt : k < B
    · obtain ⟨t, c, o1, o2, o3, o4, o5, o6, o7, o8, o9⟩ := once_facts (k := k) HE.out (by rw [EB.out]; omega)
      have h1 := find_any (M : Int) (Q : Int) (k : Int)
      have h2 := block_any (M : Int) (Q : Int) t c
      have h3 := member_any (M : Int) (Q : Int) t c
      have h4 := sector_any (M : Int) (Q : Int) t
      rw [o1] at h1
      rw [o2] at h2
      rw [o3] at h3
      rw [o4] at h4
      have HNK : Hid (¬ ∃ j : Nat, j < k ∧ keyV M k = keyV M j) := by
        rintro ⟨j, hj, e⟩
        have := keyV_inj (by omega) e
        omega
      obtain ⟨m, em⟩ : ∃ m, m = mM (M : Int) t c := ⟨_, rfl⟩
      rw [← em] at h3 o5 o8 o9
      have EK : Hid (keyV M k = .agg #[.int .i64 m, .int .i64 (100 + t)]) := o5
      unfold fT gV at h1
      unfold pT gV at h2 h3 h4
      simp only at h1 h2 h3 h4
      have hKr : Hid (Kp wr wr) := Kp.refl wr
      clear em o1 o2 o3 o4 o5
      go_wp2_with fail
      refine (h1 _).mono ?_; rintro e wa ⟨rfl, kk⟩
      have c0' := kk.held c0
      have c1' := kk.held c1
      have Kwa : Hid (Kp wr wa) := hKr.out.trans kk
      clear c0 c1 kk h1
      have c0 := c0'
      have c1 := c1'
      clear c0' c1'
      go_wp2_with fail
      refine (h2 _).mono ?_; rintro e wb ⟨rfl, kk⟩
      have c0' := kk.held c0
      have c1' := kk.held c1
      have Kwb : Hid (Kp wr wb) := Kwa.out.trans kk
      clear c0 c1 kk h2
      have c0 := c0'
      have c1 := c1'
      clear c0' c1'
      go_wp2_with fail
      refine (h3 _).mono ?_; rintro e wd ⟨rfl, kk⟩
      have c0' := kk.held c0
      have c1' := kk.held c1
      have Kwd : Hid (Kp wr wd) := Kwb.out.trans kk
      clear c0 c1 kk h3
      have c0 := c0'
      have c1 := c1'
      clear c0' c1'
      go_wp2_with fail
      refine (h4 _).mono ?_; rintro e we ⟨rfl, kk⟩
      have c0' := kk.held c0
      have c1' := kk.held c1
      have Kwe : Hid (Kp wr we) := Kwd.out.trans kk
      clear c0 c1 kk h4
      have c0 := c0'
      have c1 := c1'
      clear c0' c1'
      obtain ⟨kl, hkl⟩ := pair_lit (a := m) (b := 100 + t) (by omega) (by omega) (by omega) (by omega)
      have P4 := HP.out.kept Kwe.out
      have hnk := HNK.out
      rw [EK.out] at hnk
      have lk := P4.look (t := 56) pair_key Try.underlying56 hkl hnk
      obtain ⟨w5, up, P5, g5⟩ := P4.put (t := 56) pair_key Try.underlying56 hkl hnk (by omega)
      have HP6 : Hid (SetM w5 31 (gb + 1) (k + 1) (fun v => ∃ j : Nat, j < k + 1 ∧ v = keyV M j)) := P5.sub (fun v h => by
        rcases h with ⟨j, hj, e⟩ | e
        · exact ⟨j, by omega, e⟩
        · exact ⟨k, by omega, by rw [e, EK.out]⟩)
      have HC6 : Hid (w5.cell? ⟨gb, 0, none⟩ = some (.int .i64 (M : Int)) ∧ w5.cell? ⟨gb, 1, none⟩ = some (.int .i64 (Q : Int))) := ⟨g5.cell c0 (by simp), g5.cell c1 (by simp)⟩
      have K6 : Hid (Kp w w5) := (hK.trans Kwe.out).grown g5 (fun q hq => by cases hq; omega)
      clear P4 P5 g5 hkl hnk HNK HP HC hK EK Kwa Kwb Kwd Kwe hKr
      go_wp2
      go_roundw
      case rel => exact ⟨k + 1, by omega, by go_num, HP6, HC6, K6.out⟩
      case measure => simp [intOf]; omega
    · obtain rfl : k = B := by omega
      obtain ⟨w3, hw3⟩ : ∃ w3, w3 = wr := ⟨_, rfl⟩
      rw [← hw3] at HP HC hK c0 c1 ⊢
      have HK3 : Hid (Kp w w3) := hK
      clear hw3 hK
      go_wp2
      clear c0 c1
      go_loopw [91] (fun i wr => ∃ j : Nat, j ≤ Q ∧ i = .int .i64 (j : Int) ∧ Kp w3 wr) (fun i _ => Q - (intOf i).toNat)
      case atStart => exact ⟨0, by omega, rfl, Kp.refl w3⟩
      case round =>
        obtain ⟨t, ht, rfl, hJ⟩ := hrel
        have c0 := hJ.held HC.out.1
        have c1 := hJ.held HC.out.2
        by_cases hlt2 : t < Q
        · have hdt : decide ((t : Int) < (Q : Int)) = true := decide_eq_true (by omega)
          have h1 := row_any (M : Int) (Q : Int) (t : Int)
          rw [show row (M : Int) (Q : Int) (t : Int) = (rowL (M : Int) (t : Int), 0) from row_0 HE.out (by omega)] at h1
          unfold gV at h1
          simp only at h1
          go_wp2_with fail
          refine (h1 _).mono ?_; rintro e wy ⟨l, rfl, hl, ky⟩
          obtain ⟨g, M2, cap, eM, rfl, hcap1, hcap2, hcl⟩ := hl.row (by omega)
          obtain rfl : M2 = M := by omega
          have HL : Hid (∀ j : Nat, j < M2 → wy.cell? ⟨g, j, none⟩ = some (.int .i64 (mM M2 t j))) := hcl
          have d0 := ky.held c0
          have d1 := ky.held c1
          have HD : Hid (wy.cell? ⟨gb, 0, none⟩ = some (.int .i64 (M2 : Int)) ∧ wy.cell? ⟨gb, 1, none⟩ = some (.int .i64 (Q : Int))) := ⟨d0, d1⟩
          have KY : Hid (Kp w3 wy) := hJ.trans ky
          have HS : Hid (SetM (wy.alloc (.map #[] 0)) 3 wy.heap.size 0 (fun _ => False)) := SetM.made wy 3
          have KS : Hid (Kp wy (wy.alloc (.map #[] 0))) := (Kp.refl wy).alloc _
          obtain ⟨wz, hwz⟩ : ∃ wz, wz = wy.alloc (.map #[] 0) := ⟨_, rfl⟩
          have HWZ : Hid (wz = wy.alloc (.map #[] 0)) := hwz
          rw [← hwz] at HS KS
          clear h1 c0 c1 hl hcl ky hJ eM hwz d0 d1
          go_wp2
          rw [← HWZ.out]
          clear HWZ
          go_loopw [103] (fun i wr => ∃ j : Nat, j ≤ M2 ∧ i = .int .i64 (j : Int) ∧ Hid (SetM wr 3 wy.heap.size j (fun v => ∃ i : Nat, i < j ∧ v = .int .i64 (mM M2 t i))) ∧ Kp wy wr) (fun i _ => M2 - (intOf i).toNat)
          case atStart => exact ⟨0, by omega, rfl, HS.out.sub (fun _ h => h.elim), KS.out⟩
          case round =>
            clear HS KS
            obtain ⟨j, hj, rfl, HS, hY⟩ := hrel
            have c0 := hY.held HD.out.1
            have c1 := hY.held HD.out.2
            by_cases hlt3 : j < M2
            · have f0 := hY.held (HL.out j hlt3)
              have h1 := column_any (M2 : Int) (Q : Int) (t : Int) (mM M2 t j)
              rw [col_facts HE.out (by omega) (by omega) (by omega)] at h1
              have hmb := mM_bd (t : Int) (j : Int) (n := (M2 : Int)) (by omega)
              have HNK : Hid (¬ ∃ i : Nat, i < j ∧ (.int .i64 (mM M2 t j) : Value) = .int .i64 (mM M2 t i)) := by
                rintro ⟨i, hi, e⟩
                simp only [Value.int.injEq, true_and] at e
                have := mM_inj (by omega) (by omega) (by omega) (by omega) e
                omega
              obtain ⟨m, em⟩ : ∃ m, m = mM (M2 : Int) t j := ⟨_, rfl⟩
              rw [← em] at f0 h1 hmb HNK
              have EM : Hid (m = mM (M2 : Int) t j) := em
              unfold pT gV at h1
              simp only at h1
              obtain ⟨mb1, mb2⟩ := hmb
              clear em
              go_wp2_with fail
              refine (h1 _).mono ?_; rintro e wa ⟨rfl, ka⟩
              have d0 := ka.held c0
              have d1 := ka.held c1
              have l1 := int_lit (a := m) (by omega) (by omega)
              have P4 := HS.out.kept ka
              have lk := P4.look (t := 57) int_key Try.underlying57 l1 HNK.out
              obtain ⟨w5, up, P5, g5⟩ := P4.put (t := 57) int_key Try.underlying57 l1 HNK.out (by omega)
              have HS6 : Hid (SetM w5 3 wy.heap.size (j + 1) (fun v => ∃ i : Nat, i < j + 1 ∧ v = .int .i64 (mM M2 t i))) := P5.sub (fun v h => by
                rcases h with ⟨i, hi, e⟩ | e
                · exact ⟨i, by omega, e⟩
                · exact ⟨j, by omega, by rw [e, EM.out]⟩)
              have K6 : Hid (Kp wy w5) := (hY.trans ka).grown g5 (fun q hq => by cases hq; omega)
              clear P4 P5 g5 l1 HNK HS hY EM ka h1 c0 c1 f0
              go_wp2
              go_roundw
              case rel => exact ⟨j + 1, by omega, by go_num, HS6, K6.out⟩
              case measure => simp [intOf]; omega
            · obtain rfl : j = M2 := by omega
              have KE : Hid (Kp w3 wr) := KY.out.trans hY
              clear HS
              go_wp2
              go_roundw
              case rel => exact ⟨t + 1, by omega, by go_num, KE.out⟩
              case measure => simp [intOf]; omega
        · go_wp2_with fail
          refine (wakes_any wr).mono ?_; rintro e wx ⟨rfl, kx⟩
          have d0 := kx.held c0
          have d1 := kx.held c1
          have ln := (HP.out.kept (hJ.trans kx)).len (t := 56) Try.underlying56
          have KX : Hid (Kp w wx) := (HK3.out.trans hJ).trans kx
          clear HP HC hJ kx c0 c1
          go_wp2_with fail
          refine (HBL.out _).mono ?_; rintro e wz ⟨rfl, kz⟩
          have KZ := KX.out.trans kz
          clear kz KX d0 d1 ln
          go_wp2
          go_ret
          exact ⟨rfl, KZ⟩
theorem walk (w : World) (a0 b0 : Int) (w0 : (Lit.int .i64 a0).wf = true) (x0 : (Lit.int .i64 b0).wf = true) :
    Calls Try.prog 7 #[.agg #[.int .i64 a0, .int .i64 b0]] w fun e w' => e = .returned (.bool true) ∧ Kp w w' := by
  exact walkN w a0 b0

set_option maxRecDepth 100000 in
theorem lifted (os : Os) (started : os.Started) (H : Type) (enc : TypeId × Value → H) :
    ReturnsInHanded {} Try.checked os 7 .any (Rows.geomOnceSpec.pre6 enc Try.prog Try.f7 Rows.geomOnceRow.domain false) (Rows.geomOnceSpec.post enc Try.prog Try.f7 false true false false) := by
  refine returnsInHanded_of_change (C := Try.checked) own started (by kernel_rfl) Try.func7
    (ChangeSpec.witness6 (enc := enc) (C := Try.checked) false ⟨#[], #[.agg #[.int .i64 0, .int .i64 0]], []⟩ 8 (by kernel_rfl) (by kernel_rfl) (by kernel_rfl) (by kernel_rfl)) ?_
  intro W base args ds gs before hval0 hW hcnd _
  have hval : ∀ (j : Nat) t v, Try.f7.params[j]? = some t → args[j]? = some v → Value.okWide Try.prog W .any base t v := hval0
  have hW' := hW
  have hlt := hW.lt
  obtain ⟨p, q, hA0, hV, rfl, hfz, hnd⟩ := hW
  have hA : DataW.TrodAll enc Try.prog W 0 (fun _ => true) true Try.f7.params.toList args.toList ds p := hA0
  have hAk := hA
  rw [Try.params7] at hA hval
  obtain ⟨v0, vs0, d0, ds0, p0, q0, hargs, rfl, rfl, h0, r0⟩ := trodAll_cons hA
  obtain ⟨rfl, rfl, rfl⟩ := trodAll_nil r0
  obtain rfl : args = #[v0] := by cases args; simp_all
  obtain ⟨rfl, rfl⟩ := trodVars_none hV
  obtain ⟨a0, b0, rfl, w0, x0⟩ := open_span Try.underlying23 cellsR rfl rfl cellsI cellsI Try.underlying3 Try.underlying3 (hval 0 23 v0 rfl rfl) h0
  clear hA0 hval0
  simp only [List.append_nil] at hW' hAk hlt
  refine (walk W a0 b0 w0 x0).mono fun e W' ⟨he, hg⟩ => ?_
  subst he
  exact ⟨_, rfl, post_kp (pv := []) hW' (fun _ _ _ => (trodAll_cons_mk (shut_bool Try.underlying4 _) trodAll_mk0)) (fun sp hsp => trodAll_stays laidOut (by rw [Try.params7]; exact of_decide_eq_true (by kernel_rfl)) hAk (fun x hx => Below.same hg (hlt x hx)) hsp) (fun _ _ => rfl) (by simp) hg⟩

theorem over : Rows.geomOnceRow.holds Try.pinned (OpenSpec.ofChange Rows.geomOnceSpec) :=
  OpenClaim.holds_of_wide 7 Try.f7 rfl rfl rfl rfl rfl rfl rfl ⟨rfl, rfl, rfl, rfl, rfl⟩ rfl rfl rfl rfl rfl (by kernel_rfl) Try.func7 (by kernel_rfl)
    (of_decide_eq_true (by kernel_rfl)) (by unfold Func.isWrapper; first | (rw [if_pos (by decide +kernel)]; kernel_rfl) | (rw [if_neg (by decide +kernel)]; exact ⟨rfl, rfl⟩))
    (fun os started H enc _ => lifted os started H enc)

end Go.Proofs.Ytbagjfmhaclaeaa.geomOnce
namespace Go.Proofs.Ytbagjfmhaclaeaa
theorem geomOnce_holds : Rows.GeomOnceSaid := geomOnce.over
end Go.Proofs.Ytbagjfmhaclaeaa
