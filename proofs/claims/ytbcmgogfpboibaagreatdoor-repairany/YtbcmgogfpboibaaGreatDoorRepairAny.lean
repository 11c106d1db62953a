/-
  RepairAny: for every input the law answers true, and its arguments read as before. The condition: the kinds' names read as the package lays them.
-/
import Derived.Test.YtbcmgogfpboibaaGreatDoorRows
import Derived.Test.YtbcmgogfpboibaaGreatDoorCards
import Derived.Test.YtbcmgogfpboibaaGreatDoorTie
import Derived.Test.YtbcmgogfpboibaaGreatDoorRepArgs
import Derived.Test.YtbcmgogfpboibaaGreatDoorRepTwo
import Derived.WalkKit
import Derived.ProofKit
import Derived.OpenShut
import Derived.ShutString
import Derived.LaidMore
import Derived.SevenTiedAt
import Derived.Stop.Joined
namespace Go.Proofs.YtbcmgogfpboibaaGreatDoor.repairAny
open Go.ChangeShapes Go.WideShapes Go.ChangeAt Go.RowKit
open Go.ChangeMaps (open_string shut_string)
open Plain Go.BigFrame
set_option linter.unusedVariables false

theorem own : ownKnob Tryz.prog.godebug = none := by kernel_rfl
theorem laidOut : laidOutB Tryz.prog = true := by kernel_rfl
theorem cellsS : Tryz.prog.cellsOf 9 = 1 := by kernel_rfl

set_option maxRecDepth 100000 in
set_option maxHeartbeats 8000000 in
theorem walk (w : World) (hN : Names w) (a0 : Value) (l0 : List ByteArray) (a1 : ByteArray) (w0 : StrsIn w a0 l0) (x0 : ∀ i, i < l0.length → (l0.getD i noS).size ≤ maxLen) (w1 : a1.size ≤ maxLen) :
    Calls Tryz.prog 5 #[a0, .string a1] w fun e w' => e = .returned (.bool true) ∧ Kp w w' := by
  have w1' := w1
  clear w1
  obtain ⟨i0, hi, hz0, hz1, hz2⟩ := info_parts info_str5
  obtain ⟨a, len, cap, rfl⟩ := w0.slc
  obtain ⟨m0, D, hm, hc1, hc2, hD, hDs⟩ := row_cut w0 x0 12
  have hrow := row_any _ D hDs w hD
  have hmn : min (len : Int) 12 = (m0 : Int) := by omega
  have hmc : m0 ≤ cap := by omega
  clear w0 x0 hD hDs hm
  go_enter Tryz.func5, Tryz.ntmps5
  go_wp2_with fail
  refine hrow.mono ?_; rintro e w1 ⟨va, rfl, hA, k1⟩
  clear hmn hrow hmc hc1 hc2
  go_wp2_with fail
  refine (fnew_any w1).mono ?_; rintro e w2 ⟨f, b, rfl, hF, k2, f2, b2⟩
  go_wp2_with fail
  refine (wakes5 w2 (hN.kp (k1.trans k2))).mono ?_; rintro e w3 ⟨rfl, k3⟩
  have hF3 := hF.kp k3
  have K3 := k2.trans k3
  have HFB : Hid (∀ t, t ∈ [f, b] → w1.heap.size ≤ t) := fun t ht => by simp at ht; rcases ht with rfl | rfl <;> assumption
  obtain ⟨A, hAe⟩ : ∃ A, A = rowL D := ⟨_, rfl⟩
  rw [← hAe] at hA
  have HAE : Hid (A = rowL D) := hAe
  obtain ⟨aa, ab, ao, ac, rfl, p1, p2, p3, p4⟩ := hA.parts
  have HA : Hid (StrsIn w1 (.slice aa A.length ac) A) := hA
  have HP4 : Hid (∀ i, i < A.length → w1.cell? ⟨ab, ao + i, none⟩ = some (.string (A.getD i noS))) := p4
  unfold maxLen at p2
  have HK1 : Hid (Kp w w1) := k1
  clear hF k2 k3 hAe hA p4 f2 b2 k1
  go_wp2
  go_loopw [23] (fun iv wr => ∃ i : Nat, i ≤ A.length ∧ iv = .int .i64 i ∧ ∃ cnt : Nat → Int, FixIn wr f b cnt ∧ (∀ j, j < 8 → 0 ≤ cnt j ∧ cnt j ≤ (i : Int) * 40) ∧ Kp w1 wr) (fun iv _ => A.length - (intOf iv).toNat)
  case atStart => exact ⟨0, Nat.zero_le _, rfl, _, hF3, fun j _ => ⟨Int.le_refl 0, by simp⟩, K3⟩
  case round =>
    obtain ⟨i, hi', rfl, cnt0, hFx0, hcnt0, hK0⟩ := hrel
    clear hF3 K3
    by_cases hlt : i < A.length
    · obtain rfl := p3 (by omega)
      have hmk : mkE (rwL D) = 0 := rowL_some (by rw [← HAE.out]; omega)
      have hfits := rowL_fits hmk
      obtain ⟨l1, l2, l3⟩ := rowL_len hmk
      rw [← HAE.out] at hfits l1
      have hn40 := rw_ln D
      obtain ⟨n, hn⟩ : ∃ n, n = (cutO 40 (D.getD 0 noS)).size := ⟨_, rfl⟩
      obtain ⟨k, hk⟩ : ∃ k, k = (rwL D).length := ⟨_, rfl⟩
      rw [← hn] at hfits hn40
      rw [← hk] at hfits l1 l2 l3
      have HFT : Hid (Fits n k A) := hfits
      have hA2 : A.length ≤ k + 2 := by omega
      have hA3 : k + 2 ≤ A.length := by omega
      have HFX0 : Hid (FixIn wr f b cnt0) := hFx0
      clear hn hk hfits hmk l1 p3 hFx0
      go_wp2
      go_loopw [28] (fun kv wr => ∃ m : Nat, m ≤ i + 1 ∧ kv = .int .i64 m ∧ ∃ cnt : Nat → Int, FixIn wr f b cnt ∧ (∀ j, j < 8 → 0 ≤ cnt j ∧ cnt j ≤ (i : Int) * 40 + m) ∧ Kp w1 wr) (fun kv _ => i + 1 - (intOf kv).toNat)
      case atStart => exact ⟨0, Nat.zero_le _, rfl, cnt0, HFX0.out, fun j hj => by have := hcnt0 j hj; omega, hK0⟩
      case round =>
        obtain ⟨m, hm, rfl, cnt, hFx, hcnt, hK⟩ := hrel
        clear HFX0 hcnt0 hK0
        by_cases hlm : m < i + 1
        · have hcA : ∀ j, j < A.length → wr.cell? ⟨ab, ao + j, none⟩ = some (.string (A.getD j noS)) := fun j hj => hK.held (HP4.out j hj)
          have HFX : Hid (FixIn wr f b cnt) := hFx
          have HK : Hid (Kp w1 wr) := hK
          have hfw := hFx.hf
          have hbw := hFx.hb
          clear hFx hK
          go_wp2_with (at_builtin; refine wpList_append_own _ rfl _ _ 33 rfl wr.heap.size 9 i0 (.string ByteArray.empty) 1 16 Tryz.underlying33 hi hz0 hz1 hz2 rfl (by decide) _ _ _ rfl (World.ownsRow_nil _ _ _ _) ⟨ab, ao, none⟩ A.length ac (A.map Value.string) rfl (by simp) ?c1 ?c2 ?c3 ?c4 ?c5 ?_)
          case c1 =>
            intro j u hj
            rw [List.getElem?_map] at hj
            by_cases hjl : j < A.length
            · rw [List.getElem?_eq_getElem hjl] at hj
              have ei : (Addr.add ⟨ab, ao, none⟩ j) = ⟨ab, ao + j, none⟩ := by simp [Addr.add]
              rw [ei, hcA j hjl, List.getD_eq_getElem?_getD, List.getElem?_eq_getElem hjl]
              simpa using hj
            · rw [List.getElem?_eq_none (by omega)] at hj
              cases hj
          case c2 =>
            intro u hu
            obtain ⟨s, _, rfl⟩ := List.mem_map.1 hu
            rfl
          case c3 => unfold maxLen; omega
          case c4 => omega
          case c5 => exact Nat.le_refl _
          · intro v' w4 hown4 hgrow4 _
            have hK4 : Kp wr w4 := (Kp.refl wr).grown hgrow4 (fun k e => by cases e)
            have hown4 : w4.ownsRow wr.heap.size 9 1 v' A.length (A.map Value.string) := by simpa using hown4
            obtain ⟨g, cp, rfl⟩ : ∃ g cp, v' = .slice (some ⟨g, 0, none⟩) A.length cp := by
              rcases hown4.2 with ⟨_, h0⟩ | ⟨g, cp, cur, rfl, _⟩
              · omega
              · exact ⟨g, cp, rfl⟩
            obtain ⟨hcol, hg, q1, q2⟩ := own_col hown4 rfl
            have hcol2 := hcol.set i hlt a1
            have hcol3 := hcol2.set m (by rw [List.length_set]; omega) a1
            have hci := hcol.c i hlt
            have hzi := hcol.z i
            have hcm := hcol2.c m (by rw [List.length_set]; omega)
            have hzm := hcol2.z m
            obtain ⟨w5, hw5⟩ : ∃ w5, w5 = (w4.setCell ⟨g, i, none⟩ (.string a1)).setCell ⟨g, m, none⟩ (.string a1) := ⟨_, rfl⟩
            have K5 : Kp wr w5 := by rw [hw5]; exact (hK4.set g i hg _).set g m hg _
            rw [← hw5] at hcol3
            have HW5 : Hid (w5 = (w4.setCell ⟨g, i, none⟩ (.string a1)).setCell ⟨g, m, none⟩ (.string a1)) := hw5
            have K6 : Kp wr (w5.alloc (.cells #[.int .i64 (i : Int), .int .i64 (m : Int)] 3)) := K5.alloc _
            have hS5 := (hcol3.strs A.length cp (by omega) (by simp) q1 q2).kept ((Kp.refl w5).alloc (.cells #[.int .i64 (i : Int), .int .i64 (m : Int)] 3))
            rw [List.take_of_length_le (by simp)] at hS5
            obtain ⟨x1, x2, x3⟩ := fx_two HFT.out (by omega) (by omega) (by omega) (show i < k + 2 by omega) (show m < k + 2 by omega) a1 a1 [(i : Int), (m : Int)] (fun z => by simp)
            have hX := fix_any _ f b cnt (HFX.out.kp K6) (fun j hj => by have := hcnt j hj; omega) _ _ _ [(i : Int), (m : Int)] hS5 (fun j hj => by
              have hj2 : j < A.length := by simpa using hj
              by_cases e1 : j = m
              · subst e1; rw [getD_set_eq (by rw [List.length_set]; omega)]; exact w1'
              · rw [getD_set_ne (fun e => e1 e.symm)]
                by_cases e2 : j = i
                · subst e2; rw [getD_set_eq hj2]; exact w1'
                · rw [getD_set_ne (fun e => e2 e.symm), HFT.out.sz.at j hj2]; unfold maxLen; omega) (IntsIn.lit2 w5 (i : Int) (m : Int) 3) (by simp)
            rw [x1, x2, x3] at hX
            have hc7 := hcol3.c i (by simp; omega)
            have hL7 : ((A.set i a1).set m a1).getD i noS = a1 := by
              by_cases e : i = m
              · subst e; rw [getD_set_eq (by rw [List.length_set]; omega)]
              · rw [getD_set_ne (fun e' => e e'.symm), getD_set_eq hlt]
            rw [hL7] at hc7
            have hsz5 : w5.heap.size = w4.heap.size := by rw [hw5, World.size_setCell, World.size_setCell]
            rw [hsz5, HW5.out] at hX
            clear hsz5
            clear hL7 hS5 hcol hcol2 hcol3 x1 x2 x3 hown4 hgrow4 hw5
            go_wp2_with fail
            refine hX.mono ?_; rintro e w6 ⟨v6, rfl, hv6, hF6, s6⟩
            rw [← HW5.out] at s6
            have K16 : Kp w1 w6 := s6.kp (HK.out.trans K6) HFB.out
            have e6 := s6.held (((Kp.refl w5).alloc _).held hc7) (by simp; omega)
            have hEq := equal_any v6 _ A A w6 hv6 (HA.out.kept K16)
            rw [decide_eq_true (rfl : A = A)] at hEq
            clear hX hc7 hv6 s6 K6 K5 hK4 hci hzi hcm hzm
            go_wp2_with fail
            refine hEq.mono ?_; rintro e w7 ⟨rfl, k7⟩
            have e7 := k7.held e6
            have hee : (a1.toList == a1.toList) = true := by simp
            have HF7 : Hid (FixIn w7 f b (up cnt (kdN k (gn (k + 2) [(i : Int), (m : Int)])))) := hF6.kp k7
            have HK7 : Hid (Kp w1 w7) := K16.trans k7
            have HC7 := up_le hcnt (kdN k (gn (k + 2) [(i : Int), (m : Int)]))
            clear hEq e6 hF6 K16 k7
            go_wp2
            go_roundw
            case rel => exact ⟨m + 1, by omega, by go_num, _, HF7.out, fun j hj => by have := HC7 j hj; omega, HK7.out⟩
            case measure => simp [intOf] <;> omega
        · obtain rfl : m = i + 1 := by omega
          have HFX : Hid (FixIn wr f b cnt) := hFx
          have HK : Hid (Kp w1 wr) := hK
          clear hFx hK
          go_wp2
          go_roundw
          case rel => exact ⟨i + 1, by omega, by go_num, cnt, HFX.out, fun j hj => by have := hcnt j hj; omega, HK.out⟩
          case measure => simp [intOf] <;> omega
    · obtain rfl : i = A.length := by omega
      go_wp2
      go_ret
      exact ⟨rfl, HK1.out.trans hK0⟩

set_option maxRecDepth 100000 in
theorem lifted (os : Os) (started : os.Started) (H : Type) (enc : TypeId × Value → H) :
    ReturnsInHanded {} Tryz.checked os 5 .any (fun w args => (Rows.repairAnySpec.pre enc Tryz.prog Tryz.f5 [] false w args ∧ laidMetH Tryz.prog lz w) ∧ sizedMet enc Tryz.prog Tryz.f5 (OpenSpec.ofChange Rows.repairAnySpec) false w args)
      (Rows.repairAnySpec.post enc Tryz.prog Tryz.f5 false true false false) := by
  refine returnsInHanded_of_change_and (C := Tryz.checked) (X := fun w _ => laidMetH Tryz.prog lz w) (fun _ _ _ hh h => h.of_heap hh) own started (by kernel_rfl) Tryz.func5
    (ChangeSpec.witness_shaped (enc := enc) (C := Tryz.checked) (os := os) (X := fun w _ => laidMetH Tryz.prog lz w) false (World.doorLaid Tryz.prog 400 os) #[.slice none 0 0, .string ByteArray.empty] 8 rfl (World.shaped_of_RefB (by kernel_rfl) (by kernel_rfl)) (by kernel_rfl) (by kernel_rfl) (by kernel_rfl) (door_met os _)) ?_
  intro W base args ds gs before hval0 hW hcnd _ hL _
  have hval : ∀ (j : Nat) t v, Tryz.f5.params[j]? = some t → args[j]? = some v → Value.okWide Tryz.prog W .any base t v := hval0
  have hW' := hW
  have hlt := hW.lt
  obtain ⟨p, q, hA0, hV, rfl, hfz, hnd⟩ := hW
  have hA : DataW.TrodAll enc Tryz.prog W 0 (fun _ => true) true Tryz.f5.params.toList args.toList ds p := hA0
  have hAk := hA
  rw [Tryz.params5] at hA hval
  obtain ⟨v0, vs0, d0, ds0, p0, q0, hargs, rfl, rfl, h0, r0⟩ := trodAll_cons hA
  obtain ⟨v1, vs1, d1, ds1, p1, q1, rfl, rfl, rfl, h1, r1⟩ := trodAll_cons r0
  obtain ⟨rfl, rfl, rfl⟩ := trodAll_nil r1
  obtain rfl : args = #[v0, v1] := by cases args; simp_all
  obtain ⟨rfl, rfl⟩ := trodVars_none hV
  obtain ⟨l0, w0, x0⟩ := open_strs Tryz.underlying33 Tryz.underlying9 cellsS (hval 0 33 v0 rfl rfl) h0
  obtain ⟨a1, rfl, rfl, rfl, w1⟩ := open_string Tryz.underlying9 (hval 1 9 v1 rfl rfl) h1
  clear hA0 hval0
  simp only [List.append_nil] at hW' hAk hlt
  refine (walk W (of_laid hL) v0 l0 a1 w0 x0 w1).mono fun e W' ⟨he, hg⟩ => ?_
  subst he
  exact ⟨_, rfl, post_kp (pv := []) hW' (fun _ _ _ => (trodAll_cons_mk (shut_bool Tryz.underlying4 _) trodAll_mk0)) (fun sp hsp => trodAll_stays laidOut (by rw [Tryz.params5]; exact of_decide_eq_true (by kernel_rfl)) hAk (fun x hx => Below.same hg (hlt x hx)) hsp) (fun _ _ => rfl) (by simp) hg⟩

theorem over : Rows.repairAnyRow.holds Tryz.pinned (OpenSpec.ofChange Rows.repairAnySpec) :=
  OpenClaim.holds_of_wide 5 Tryz.f5 rfl rfl rfl rfl rfl rfl rfl ⟨rfl, rfl, rfl, rfl, rfl⟩ rfl rfl rfl rfl rfl (by kernel_rfl) Tryz.func5 (by kernel_rfl)
    (of_decide_eq_true (by kernel_rfl)) (by unfold Func.isWrapper; first | (rw [if_pos (by decide +kernel)]; kernel_rfl) | (rw [if_neg (by decide +kernel)]; exact ⟨rfl, rfl⟩))
    (fun os started H enc _ => lifted os started H enc)

theorem card : Claim7.holds Tryz.pinned (.plain (OpenSpec.ofChange Rows.repairAnySpec)) Rows.repairAnyCard :=
  Claim7.holds_tied_plain_at .later [] [.data] true Rows.repairAnyCard.stood.harness false
    over (fun _ h => by cases h) (by kernel_rfl) (fun _ h => by cases h) repairAny_row_tie rfl ⟨rfl, rfl⟩ (by kernel_rfl) rfl
    (fun f fn hf hfn => by
      have e : some f = some 5 := hf.symm.trans (by kernel_rfl)
      obtain rfl := Option.some.inj e
      obtain rfl : fn = Tryz.f5 := (Option.some.inj (Tryz.func5.symm.trans hfn)).symm
      exact ⟨by kernel_rfl, fun j t ht => by
        rw [Tryz.params5] at ht
        have hm : t ∈ [33, 9] := by simpa using Array.mem_of_getElem? ht
        have hall : ([33, 9].all fun u => !Tryz.prog.wantsStandIn u) = true := by kernel_rfl
        exact (show Tryz.prog.wantsStandIn t = false by simpa using List.all_eq_true.1 hall t hm)⟩)
    (by kernel_rfl)

end Go.Proofs.YtbcmgogfpboibaaGreatDoor.repairAny
namespace Go.Proofs.YtbcmgogfpboibaaGreatDoor
theorem repairAny_holds : Rows.RepairAnyCardSaid := repairAny.card
end Go.Proofs.YtbcmgogfpboibaaGreatDoor
