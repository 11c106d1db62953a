/-
  RepairWide: for every input the law answers true, and its arguments read as before. The condition: the kinds' names read as the package lays them.
-/
import Derived.Test.YtbcmgogfpboibaaGreatDoorRows
import Derived.Test.YtbcmgogfpboibaaGreatDoorCards
import Derived.Test.YtbcmgogfpboibaaGreatDoorTie
import Derived.Test.YtbcmgogfpboibaaGreatDoorRepArgs
import Derived.Test.YtbcmgogfpboibaaGreatDoorRepArgs3
import Derived.WalkKit
import Derived.ProofKit
import Derived.OpenShut
import Derived.ShutString
import Derived.LaidMore
import Derived.SevenTiedAt
import Derived.Stop.Joined
import Derived.Deep.DeepCutAuto
namespace Go.Proofs.YtbcmgogfpboibaaGreatDoor.repairWide
open Go.ChangeShapes Go.WideShapes Go.ChangeAt Go.RowKit
open Go.ChangeMaps (open_string shut_string)
open Plain Go.BigFrame
set_option linter.unusedVariables false

theorem own : ownKnob Tryz.prog.godebug = none := by kernel_rfl
theorem laidOut : laidOutB Tryz.prog = true := by kernel_rfl
theorem cellsS : Tryz.prog.cellsOf 9 = 1 := by kernel_rfl
theorem cellsI : Tryz.prog.cellsOf 3 = 1 := by kernel_rfl
theorem cellsJ : Tryz.prog.cellsOf 45 = 2 := by kernel_rfl
def slen : Value → Nat
  | .slice _ n _ => n
  | _ => 0
theorem wide1 : (⟨#[120]⟩ : ByteArray).size ≤ maxLen := by show 1 ≤ maxLen; unfold maxLen; omega
theorem wide2 : (⟨#[121, 122]⟩ : ByteArray).size ≤ maxLen := by show 2 ≤ maxLen; unfold maxLen; omega

set_option maxRecDepth 100000 in
set_option maxHeartbeats 8000000 in
theorem walk (w : World) (hN : Names w) (a0 : Value) (l0 : List ByteArray) (a1 b1 : Int) (w0 : StrsIn w a0 l0) (x0 : ∀ i, i < l0.length → (l0.getD i noS).size ≤ maxLen) (w1 : (Lit.int .i64 a1).wf = true) (x1 : (Lit.int .i64 b1).wf = true) :
    Calls Tryz.prog 6 #[a0, .agg #[.int .i64 a1, .int .i64 b1]] w fun e w' => e = .returned (.bool true) ∧ Kp w w' := by
  have ba := bounds_i64 w1
  have bb := bounds_i64 x1
  clear w1 x1
  obtain ⟨i0, hi, hz0, hz1, hz2⟩ := info_parts info_str5
  obtain ⟨xa, hma'⟩ : ∃ n : Nat, max 0 a1 = (n : Int) := ⟨(max 0 a1).toNat, by omega⟩
  obtain ⟨xb, hmb'⟩ : ∃ n : Nat, max 0 b1 = (n : Int) := ⟨(max 0 b1).toNat, by omega⟩
  have hxa : xa ≤ 9223372036854775807 := by omega
  have hxb : xb ≤ 9223372036854775807 := by omega
  have c0 : (w.alloc (.cells #[.int .i64 a1, .int .i64 b1] 45)).cell? ⟨w.heap.size, 0, none⟩ = some (.int .i64 a1) := by rw [World.cell?_alloc_at _ _ _ _ rfl]; rfl
  have c1 : (w.alloc (.cells #[.int .i64 a1, .int .i64 b1] 45)).cell? ⟨w.heap.size, 1, none⟩ = some (.int .i64 b1) := by rw [World.cell?_alloc_at _ _ _ _ rfl]; rfl
  have kb : Kp w (w.alloc (.cells #[.int .i64 a1, .int .i64 b1] 45)) := (Kp.refl w).alloc _
  have HMA : Hid (max 0 a1 = (xa : Int)) := hma'
  have HMB : Hid (max 0 b1 = (xb : Int)) := hmb'
  obtain ⟨W0, hW0⟩ : ∃ W0, W0 = (w.alloc (.cells #[.int .i64 a1, .int .i64 b1] 45)) := ⟨_, rfl⟩
  have hcut := cut_any (n := 8) (by omega) true _ l0 x0 (w.alloc (.cells #[.int .i64 a1, .int .i64 b1] 45)) (w0.kept kb)
  rw [← hW0] at c0 c1 kb hcut
  have HW0 : Hid (W0 = (w.alloc (.cells #[.int .i64 a1, .int .i64 b1] 45))) := hW0
  obtain ⟨q0, hq0⟩ : ∃ q, q = min l0.length 36 := ⟨_, rfl⟩
  rw [← hq0] at hcut
  have hq36 : q0 ≤ 36 := by omega
  obtain ⟨M0, hM0⟩ : ∃ M, M = cutL 8 true l0 q0 := ⟨_, rfl⟩
  have hM0l : M0.length = q0 := by rw [hM0]; exact cutL_length _ _ _
  have hM0s : Sz (cutO 8 (l0.getD 0 noS)).size M0 := fun s hs => by
    rw [hM0] at hs
    unfold cutL at hs
    obtain ⟨i, _, rfl⟩ := List.mem_map.1 hs
    exact cutE_size l0 i
  have hn8 : (cutO 8 (l0.getD 0 noS)).size ≤ 8 := cutO_le _
  rw [← hM0] at hcut
  obtain ⟨n8, hn8'⟩ : ∃ n, n = (cutO 8 (l0.getD 0 noS)).size := ⟨_, rfl⟩
  have hn0 : q0 = 0 → n8 = 0 := fun h => by
    have h0 : l0 = [] := List.eq_nil_of_length_eq_zero (by omega)
    rw [hn8', h0]; decide
  rw [← hn8'] at hM0s hn8
  have hcut2 : Calls Tryz.prog 14 #[a0, .int .i64 8, .bool true] (w.alloc (.cells #[.int .i64 a1, .int .i64 b1] 45)) fun e w' => ∃ v, e = .returned v ∧ w'.ownsRow W0.heap.size 9 1 v q0 (M0.map Value.string) ∧ Kp W0 w' := by rw [← hW0]; exact hcut
  clear hcut hW0 hq0 hM0 hn8' w0 x0 hma' hmb'
  go_enter Tryz.func6, Tryz.ntmps6
  go_wp2_with fail
  refine hcut2.mono ?_; rintro e w1 ⟨v1, rfl, ho1, k1⟩
  have HK1 : Hid (Kp W0 w1) := k1
  have HM : Hid (M0.length = q0 ∧ Sz n8 M0 ∧ (q0 = 0 → n8 = 0)) := ⟨hM0l, hM0s, hn0⟩
  clear hcut2 k1 hM0l hM0s hn0
  go_wp2
  go_loopw [5] (fun v wr => ∃ (q : Nat) (M : List ByteArray), q ≤ 36 ∧ M.length = q ∧ Sz n8 M ∧ (q = 0 → n8 = 0) ∧ wr.ownsRow W0.heap.size 9 1 v q (M.map Value.string) ∧ Kp W0 wr) (fun v _ => 30 - slen v)
  case atStart => exact ⟨q0, M0, hq36, HM.out.1, HM.out.2.1, HM.out.2.2, ho1, HK1.out⟩
  case round =>
    obtain ⟨q, M, hq, hMl, hMs, hM0', hown, hK⟩ := hrel
    have HN0 : Hid (q = 0 → n8 = 0) := hM0'
    clear hM0'
    clear ho1 HM HK1 hq36
    have HQ : Hid (M.length = q ∧ Sz n8 M) := ⟨hMl, hMs⟩
    have hz := hK.size
    clear hMl hMs
    by_cases hq30 : q < 30
    · by_cases hq0 : q = 0
      · subst hq0
        obtain ⟨ga, gc, rfl⟩ : ∃ ga gc, u5 = .slice ga 0 gc := by
          rcases hown.2 with ⟨rfl, _⟩ | ⟨g, cp, cur, rfl, _⟩
          · exact ⟨_, _, rfl⟩
          · exact ⟨_, _, rfl⟩
        have HZ : Hid (Sz n8 (M ++ [(⟨#[]⟩ : ByteArray)])) := fun s hs => by
          have hM : M = [] := List.eq_nil_of_length_eq_zero HQ.out.1
          rw [hM] at hs
          rw [List.mem_singleton.1 hs, HN0.out rfl]; rfl
        go_wp2_with (at_builtin; refine wpList_append_own _ rfl _ _ 33 rfl W0.heap.size 9 i0 (.string ByteArray.empty) 1 16 Tryz.underlying33 hi hz0 hz1 hz2 rfl (by decide) _ _ _ rfl (hown.alloc _) ⟨wr.heap.size, 0, none⟩ 1 1 [.string (⟨#[]⟩ : ByteArray)] rfl rfl ?c1 ?c2 ?c3 ?c4 ?c5 ?_)
        case c2 => rfl
        case c3 => unfold maxLen; omega
        case c5 => omega
        · intro v' w3 hown3 hgrow3 _
          have hK3 : Kp W0 w3 := (hK.alloc _).grown hgrow3 (own_lt hown)
          have hown4 : w3.ownsRow W0.heap.size 9 1 v' (0 + 1) ((M ++ [(⟨#[]⟩ : ByteArray)]).map Value.string) := by simpa using hown3
          obtain ⟨g', cp', rfl⟩ := ownsRow_succ hown4
          clear hgrow3 hown hown3 hK
          go_wp2
          go_roundw
          case rel => exact ⟨0 + 1, M ++ [(⟨#[]⟩ : ByteArray)], by omega, by rw [List.length_append, HQ.out.1]; rfl, HZ.out, (fun h => absurd h (by omega)), hown4, hK3⟩
          case measure => simp [slen] <;> omega
      · obtain ⟨ga, cp, rfl, g, hga⟩ : ∃ ga cp, u5 = .slice ga q cp ∧ ∃ g, ga = some ⟨g, 0, none⟩ := by
          rcases hown.2 with ⟨_, h0⟩ | ⟨g, cp, cur, rfl, _⟩
          · exact absurd h0 hq0
          · exact ⟨_, _, rfl, _, rfl⟩
        have HGA : Hid (ga = some ⟨g, 0, none⟩) := hga
        have hqp : 0 < q := by omega
        have hc0 := own_at (by rw [hga] at hown; exact hown) HQ.out.1 0 hqp
        clear hq0 hga
        have HZ : Hid (Sz n8 (M ++ [M.getD 0 noS])) := fun s hs => by
          rcases List.mem_append.1 hs with h | h
          · exact HQ.out.2 s h
          · rw [List.mem_singleton.1 h]; exact HQ.out.2.at 0 (by rw [HQ.out.1]; omega)
        obtain ⟨S0, hS0⟩ : ∃ S, S = M.getD 0 noS := ⟨_, rfl⟩
        rw [← hS0] at hc0 HZ
        clear hS0
        go_upto_if 20 with fail
        go_cut [6] (fun s wx => s = .string S0 ∧ wx = wr)
        case first =>
          obtain rfl := HGA.out
          clear hown
          go_wp2_with fail
          go_meet
          exact ⟨rfl, rfl⟩
        obtain ⟨rfl, hwc⟩ := hcut
        subst hwc
        obtain ⟨wr, hwr⟩ : ∃ w', w' = wc := ⟨_, rfl⟩
        rw [← hwr] at hown hK hz ⊢
        clear hwr hc0
        obtain ⟨V, hV⟩ : ∃ V, V = Value.slice ga q cp := ⟨_, rfl⟩
        rw [← hV] at hown ⊢
        have HV : Hid (V = Value.slice ga q cp) := hV
        clear hV
        go_wp2_with (at_builtin; refine wpList_append_own _ rfl _ _ 33 rfl W0.heap.size 9 i0 (.string ByteArray.empty) 1 16 Tryz.underlying33 hi hz0 hz1 hz2 rfl (by decide) _ _ _ rfl (hown.alloc _) ⟨wr.heap.size, 0, none⟩ 1 1 [.string S0] rfl rfl ?d1 ?d2 ?d3 ?d4 ?d5 ?_)
        case d1 =>
          intro j u hj
          match j, hj with
          | 0, hj => simp at hj; subst hj; simp [Addr.add]
        case d2 => intro u hu; simp at hu; subst hu; rfl
        case d3 => unfold maxLen; omega
        case d4 => omega
        case d5 => simp; omega
        · intro v' w3 hown3 hgrow3 _
          have hK3 : Kp W0 w3 := (hK.alloc _).grown hgrow3 (own_lt hown)
          have hown4 : w3.ownsRow W0.heap.size 9 1 v' (q + 1) ((M ++ [S0]).map Value.string) := by simpa using hown3
          obtain ⟨g', cp', rfl⟩ := ownsRow_succ hown4
          clear hgrow3 hown hown3 hK
          go_wp2
          go_roundw
          case rel => exact ⟨q + 1, M ++ [S0], by omega, by rw [List.length_append, HQ.out.1]; rfl, HZ.out, (fun h => absurd h (by omega)), hown4, hK3⟩
          case measure => simp [slen] <;> omega
    · obtain ⟨g, cp, rfl⟩ : ∃ g cp, u5 = .slice (some ⟨g, 0, none⟩) q cp := by
        rcases hown.2 with ⟨_, h0⟩ | ⟨g, cp, cur, rfl, _⟩
        · omega
        · exact ⟨_, _, rfl⟩
      obtain ⟨hcol, hg, q1, q2⟩ := own_col hown HQ.out.1
      have hMq := HQ.out.1
      have hD := hcol.strs 30 cp (by omega) (by omega) (by omega) q2
      have hDz : Sz n8 (M.take 30) := HQ.out.2.take 30
      have hDl : (M.take 30).length = 30 := by rw [List.length_take]; omega
      obtain ⟨D, hDe⟩ : ∃ D, D = M.take 30 := ⟨_, rfl⟩
      rw [← hDe] at hD hDz hDl
      have hrow := row_any _ D (fun i hi => by rw [hDz.at i hi]; unfold maxLen; omega) wr hD
      have hrl : (rwL D).length = 30 := by unfold rwL; rw [cutL_length, hDl]; rfl
      have hmk : mkE (rwL D) = 0 := (mk_all (by omega) (by omega) (by have := rw_ln D; omega) (rw_sz D)).1
      have hfits := rowL_fits hmk
      obtain ⟨l1, l2, l3⟩ := rowL_len hmk
      have hn40 := rw_ln D
      obtain ⟨A, hAe⟩ : ∃ A, A = rowL D := ⟨_, rfl⟩
      rw [← hAe] at hrow hfits l1
      rw [hrl] at hfits l1
      obtain ⟨n, hn⟩ : ∃ n, n = (cutO 40 (D.getD 0 noS)).size := ⟨_, rfl⟩
      rw [← hn] at hfits hn40
      have HFT : Hid (Fits n 30 A) := hfits
      have HA32 : Hid (A.length = 32) := l1
      have hK' := hK
      have HK : Hid (Kp W0 wr) := hK
      have hcp : 30 ≤ cp := by omega
      unfold maxLen at q2
      have hX0 := hK.held c0
      have hX1 := hK.held c1
      clear hn hAe hfits hmk hrl hDe hD hDz hDl hMq hcol hown HQ hK hK' l1 l2 l3 c0 c1 HN0
      go_wp2_with fail
      refine hrow.mono ?_; rintro e w2 ⟨va, rfl, hA, k2⟩
      have y0 := k2.held hX0
      have y1 := k2.held hX1
      have HK2 : Hid (Kp W0 w2) := HK.out.trans k2
      clear hrow k2 hX0 hX1 HK
      obtain ⟨aa, ab, ao, ac, rfl, p1, p2, p3, p4⟩ := hA.parts
      rw [HA32.out] at p1 p3 p4 hA ⊢
      obtain rfl := p3 (by omega)
      have HA : Hid (StrsIn w2 (.slice (some ⟨ab, ao, none⟩) 32 ac) A) := hA
      have HP4 : Hid (∀ i, i < 32 → w2.cell? ⟨ab, ao + i, none⟩ = some (.string (A.getD i noS))) := p4
      unfold maxLen at p2
      clear hA p3 p4
      have HKW : Hid (Kp w W0) := kb
      clear kb
      go_wp2_with fail
      refine (wakes5 w2 (hN.kp (HKW.out.trans HK2.out))).mono ?_; rintro e w3 ⟨rfl, k3⟩
      have t0 : ∀ p, (kpw w3 p).cell? ⟨w.heap.size, 0, none⟩ = some (.int .i64 a1) := fun p => kpw_cell (k3.held y0) p
      have t1 : ∀ p, (kpw w3 p).cell? ⟨w.heap.size, 1, none⟩ = some (.int .i64 b1) := fun p => kpw_cell (k3.held y1) p
      have hma : max 0 a1 = (xa : Int) := HMA.out
      have hmb : max 0 b1 = (xb : Int) := HMB.out
      obtain ⟨qa, hqa'⟩ : ∃ q, q = xa % 32 := ⟨_, rfl⟩
      obtain ⟨qb, hqb'⟩ : ∃ q, q = xb % 32 := ⟨_, rfl⟩
      have hqa : (xa : Int) % 32 = (qa : Int) := by omega
      have hqb : (xb : Int) % 32 = (qb : Int) := by omega
      have ya : qa < 32 := by omega
      have yb : qb < 32 := by omega
      have HK3 : Hid (Kp w2 w3) := k3
      clear k3 y0 y1 HMA HMB hqa' hqb' ba bb
      go_wp2_with fail
      refine wp_region_kp (by kernel_rfl) (by kernel_rfl) ?_
      repeat (first
        | go_big_quiet_skip
        | (go_big_quiet_want; go_big_quiet_op; go_big_quiet_on))
      refine wpQuiet_nil ?_
      rintro w4 ⟨p, rfl⟩
      have HK34 : Hid (Kp w3 (kpw w3 p)) := kpw_kp w3 p
      obtain ⟨w4, hw4⟩ : ∃ w', w' = kpw w3 p := ⟨_, rfl⟩
      rw [← hw4] at HK34 ⊢
      rw [hqa, hqb]
      clear hw4 t0 t1 hma hmb hqa hqb
      have hcA : ∀ j, j < 32 → w4.cell? ⟨ab, ao + j, none⟩ = some (.string (A.getD j noS)) := fun j hj => (HK3.out.trans HK34.out).held (HP4.out j hj)
      go_wp2_with (at_builtin; refine wpList_append_own _ rfl _ _ 33 rfl w4.heap.size 9 i0 (.string ByteArray.empty) 1 16 Tryz.underlying33 hi hz0 hz1 hz2 rfl (by decide) _ _ _ rfl (World.ownsRow_nil _ _ _ _) ⟨ab, ao, none⟩ 32 ac (A.map Value.string) rfl (by rw [List.length_map, HA32.out]) ?k1 ?k2 ?k3 ?k4 ?k5 ?_)
      case k1 =>
        intro j u hj
        rw [List.getElem?_map] at hj
        by_cases hjl : j < A.length
        · rw [List.getElem?_eq_getElem hjl] at hj
          have ei : (Addr.add ⟨ab, ao, none⟩ j) = ⟨ab, ao + j, none⟩ := by simp [Addr.add]
          rw [ei, hcA j (by rw [HA32.out] at hjl; exact hjl), List.getD_eq_getElem?_getD, List.getElem?_eq_getElem hjl]
          simpa using hj
        · rw [List.getElem?_eq_none (by omega)] at hj
          cases hj
      case k2 =>
        intro u hu
        obtain ⟨s, _, rfl⟩ := List.mem_map.1 hu
        rfl
      case k3 => unfold maxLen; omega
      case k4 => omega
      case k5 => exact Nat.le_refl _
      · intro v' w5 hown5 hgrow5 _
        have hK5 : Kp w4 w5 := (Kp.refl w4).grown hgrow5 (fun k e => by cases e)
        have hown5 : w5.ownsRow w4.heap.size 9 1 v' 32 (A.map Value.string) := by simpa using hown5
        obtain ⟨g2, cp2, rfl⟩ : ∃ g cp, v' = .slice (some ⟨g, 0, none⟩) 32 cp := by
          rcases hown5.2 with ⟨_, h0⟩ | ⟨g, cp, cur, rfl, _⟩
          · omega
          · exact ⟨g, cp, rfl⟩
        obtain ⟨hcol, hg2, r1, r2⟩ := own_col hown5 HA32.out
        have hcol2 := hcol.set qa (by rw [HA32.out]; exact ya) ⟨#[120]⟩
        have hcol3 := hcol2.set qb (by rw [List.length_set, HA32.out]; exact yb) ⟨#[121, 122]⟩
        have hci := hcol.c qa (by rw [HA32.out]; exact ya)
        have hzi := hcol.z qa
        have hcm := hcol2.c qb (by rw [List.length_set, HA32.out]; exact yb)
        have hzm := hcol2.z qb
        obtain ⟨w6, hw6⟩ : ∃ w6, w6 = (w5.setCell ⟨g2, qa, none⟩ (.string ⟨#[120]⟩)).setCell ⟨g2, qb, none⟩ (.string ⟨#[121, 122]⟩) := ⟨_, rfl⟩
        have K6 : Kp w4 w6 := by rw [hw6]; exact (hK5.set g2 qa hg2 _).set g2 qb hg2 _
        rw [← hw6] at hcol3
        have HW6 : Hid (w6 = (w5.setCell ⟨g2, qa, none⟩ (.string ⟨#[120]⟩)).setCell ⟨g2, qb, none⟩ (.string ⟨#[121, 122]⟩)) := hw6
        have hS6 := hcol3.strs 32 cp2 (by omega) (by simp [HA32.out]) r1 r2
        rw [List.take_of_length_le (by simp [HA32.out])] at hS6
        have hnew := fnew_any w6
        rw [HW6.out] at hnew
        obtain ⟨x1, x2, x3⟩ := fx_two HFT.out (by omega) (by omega) (by omega) (show qa < 30 + 2 by omega) (show qb < 30 + 2 by omega) ⟨#[120]⟩ ⟨#[121, 122]⟩ [(qb : Int), (qa : Int), (qb : Int)] (fun z => by simp; omega)
        have hX := fun (w' : World) (f b : Nat) (hf : FixIn w' f b (fun _ => 0)) (hL : StrsIn w' (.slice (some ⟨g2, 0, none⟩) 32 cp2) ((A.set qa ⟨#[120]⟩).set qb ⟨#[121, 122]⟩)) => fix_any (w'.alloc (.cells #[.int .i64 (qb : Int), .int .i64 (qa : Int), .int .i64 (qb : Int)] 3)) f b _ (hf.kp ((Kp.refl w').alloc _)) cnt_zero _ _ _ [(qb : Int), (qa : Int), (qb : Int)] (hL.kept ((Kp.refl w').alloc _)) (fun j hj => by
          have hj2 : j < A.length := by simpa using hj
          by_cases e1 : j = qb
          · subst e1; rw [getD_set_eq (by rw [List.length_set]; exact hj2)]; exact wide2
          · rw [getD_set_ne (fun e => e1 e.symm)]
            by_cases e2 : j = qa
            · subst e2; rw [getD_set_eq hj2]; exact wide1
            · rw [getD_set_ne (fun e => e2 e.symm), HFT.out.sz.at j hj2]; unfold maxLen; omega) (IntsIn.lit3 w' (qb : Int) (qa : Int) (qb : Int) 3) (by simp)
        rw [x1, x2] at hX
        clear x1 x2 x3 hcol hcol2 hcol3 hown5 hgrow5 hw6
        go_wp2_with fail
        refine hnew.mono ?_; rintro e w7 ⟨f, b, rfl, hF, k7, f7, b7⟩
        rw [← HW6.out] at k7 f7 b7
        have hX2 := hX w7 f b hF (hS6.kept k7)
        have k8 : Kp w4 (w7.alloc (.cells #[.int .i64 (qb : Int), .int .i64 (qa : Int), .int .i64 (qb : Int)] 3)) := (K6.trans k7).alloc _
        have HFB : Hid (∀ t, t ∈ [f, b] → w4.heap.size ≤ t) := fun t ht => by have := K6.size; simp at ht; rcases ht with rfl | rfl <;> omega
        clear hnew hX hS6 hF k7 f7 b7 hci hzi hcm hzm
        go_wp2_with fail
        refine hX2.mono ?_; rintro e w8 ⟨v8, rfl, hv8, _, s8⟩
        have K48 : Kp w4 w8 := s8.kp k8 HFB.out
        have hEq := equal_any v8 _ A A w8 hv8 (HA.out.kept ((HK3.out.trans HK34.out).trans K48))
        rw [decide_eq_true (rfl : A = A)] at hEq
        clear hX2 s8 k8 hv8
        go_wp2_with fail
        refine hEq.mono ?_; rintro e w9 ⟨rfl, k9⟩
        have HK9 : Hid (Kp w w9) := ((((HKW.out.trans HK2.out).trans HK3.out).trans HK34.out).trans K48).trans k9
        clear hEq K48 k9
        go_wp2
        go_ret
        exact ⟨rfl, HK9.out⟩

set_option maxRecDepth 100000 in
theorem lifted (os : Os) (started : os.Started) (H : Type) (enc : TypeId × Value → H) :
    ReturnsInHanded {} Tryz.checked os 6 .any (fun w args => (Rows.repairWideSpec.pre enc Tryz.prog Tryz.f6 [] false w args ∧ laidMetH Tryz.prog lz w) ∧ sizedMet enc Tryz.prog Tryz.f6 (OpenSpec.ofChange Rows.repairWideSpec) false w args)
      (Rows.repairWideSpec.post enc Tryz.prog Tryz.f6 false true false false) := by
  refine returnsInHanded_of_change_and (C := Tryz.checked) (X := fun w _ => laidMetH Tryz.prog lz w) (fun _ _ _ hh h => h.of_heap hh) own started (by kernel_rfl) Tryz.func6
    (ChangeSpec.witness_shaped (enc := enc) (C := Tryz.checked) (os := os) (X := fun w _ => laidMetH Tryz.prog lz w) false (World.doorLaid Tryz.prog 400 os) #[.slice none 0 0, .agg #[.int .i64 0, .int .i64 0]] 8 rfl (World.shaped_of_RefB (by kernel_rfl) (by kernel_rfl)) (by kernel_rfl) (by kernel_rfl) (by kernel_rfl) (door_met os _)) ?_
  intro W base args ds gs before hval0 hW hcnd _ hL _
  have hval : ∀ (j : Nat) t v, Tryz.f6.params[j]? = some t → args[j]? = some v → Value.okWide Tryz.prog W .any base t v := hval0
  have hW' := hW
  have hlt := hW.lt
  obtain ⟨p, q, hA0, hV, rfl, hfz, hnd⟩ := hW
  have hA : DataW.TrodAll enc Tryz.prog W 0 (fun _ => true) true Tryz.f6.params.toList args.toList ds p := hA0
  have hAk := hA
  rw [Tryz.params6] at hA hval
  obtain ⟨v0, vs0, d0, ds0, p0, q0, hargs, rfl, rfl, h0, r0⟩ := trodAll_cons hA
  obtain ⟨v1, vs1, d1, ds1, p1, q1, rfl, rfl, rfl, h1, r1⟩ := trodAll_cons r0
  obtain ⟨rfl, rfl, rfl⟩ := trodAll_nil r1
  obtain rfl : args = #[v0, v1] := by cases args; simp_all
  obtain ⟨rfl, rfl⟩ := trodVars_none hV
  obtain ⟨l0, w0, x0⟩ := open_strs Tryz.underlying33 Tryz.underlying9 cellsS (hval 0 33 v0 rfl rfl) h0
  obtain ⟨a1, b1, rfl, w1, x1⟩ := open_ints2 Tryz.underlying45 Tryz.underlying3 cellsI cellsJ (hval 1 45 v1 rfl rfl) h1
  clear hA0 hval0
  simp only [List.append_nil] at hW' hAk hlt
  refine (walk W (of_laid hL) v0 l0 a1 b1 w0 x0 w1 x1).mono fun e W' ⟨he, hg⟩ => ?_
  subst he
  exact ⟨_, rfl, post_kp (pv := []) hW' (fun _ _ _ => (trodAll_cons_mk (shut_bool Tryz.underlying4 _) trodAll_mk0)) (fun sp hsp => trodAll_stays laidOut (by rw [Tryz.params6]; exact of_decide_eq_true (by kernel_rfl)) hAk (fun x hx => Below.same hg (hlt x hx)) hsp) (fun _ _ => rfl) (by simp) hg⟩

theorem over : Rows.repairWideRow.holds Tryz.pinned (OpenSpec.ofChange Rows.repairWideSpec) :=
  OpenClaim.holds_of_wide 6 Tryz.f6 rfl rfl rfl rfl rfl rfl rfl ⟨rfl, rfl, rfl, rfl, rfl⟩ rfl rfl rfl rfl rfl (by kernel_rfl) Tryz.func6 (by kernel_rfl)
    (of_decide_eq_true (by kernel_rfl)) (by unfold Func.isWrapper; first | (rw [if_pos (by decide +kernel)]; kernel_rfl) | (rw [if_neg (by decide +kernel)]; exact ⟨rfl, rfl⟩))
    (fun os started H enc _ => lifted os started H enc)

theorem card : Claim7.holds Tryz.pinned (.plain (OpenSpec.ofChange Rows.repairWideSpec)) Rows.repairWideCard :=
  Claim7.holds_tied_plain_at .later [] [.data] true Rows.repairWideCard.stood.harness false
    over (fun _ h => by cases h) (by kernel_rfl) (fun _ h => by cases h) repairWide_row_tie rfl ⟨rfl, rfl⟩ (by kernel_rfl) rfl
    (fun f fn hf hfn => by
      have e : some f = some 6 := hf.symm.trans (by kernel_rfl)
      obtain rfl := Option.some.inj e
      obtain rfl : fn = Tryz.f6 := (Option.some.inj (Tryz.func6.symm.trans hfn)).symm
      exact ⟨by kernel_rfl, fun j t ht => by
        rw [Tryz.params6] at ht
        have hm : t ∈ [33, 45] := by simpa using Array.mem_of_getElem? ht
        have hall : ([33, 45].all fun u => !Tryz.prog.wantsStandIn u) = true := by kernel_rfl
        exact (show Tryz.prog.wantsStandIn t = false by simpa using List.all_eq_true.1 hall t hm)⟩)
    (by kernel_rfl)

end Go.Proofs.YtbcmgogfpboibaaGreatDoor.repairWide
namespace Go.Proofs.YtbcmgogfpboibaaGreatDoor
theorem repairWide_holds : Rows.RepairWideCardSaid := repairWide.card
end Go.Proofs.YtbcmgogfpboibaaGreatDoor
