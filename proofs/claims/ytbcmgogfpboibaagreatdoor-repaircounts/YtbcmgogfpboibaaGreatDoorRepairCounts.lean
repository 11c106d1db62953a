/-
  RepairCounts: for every input the law answers true, and its arguments read as before. The condition: the kinds' names read as the package lays them.
-/
import Derived.Test.YtbcmgogfpboibaaGreatDoorRows
import Derived.Test.YtbcmgogfpboibaaGreatDoorCards
import Derived.Test.YtbcmgogfpboibaaGreatDoorTie
import Derived.Test.YtbcmgogfpboibaaGreatDoorRepArgs
import Derived.Test.YtbcmgogfpboibaaGreatDoorRepArgs3
import Derived.WalkKit
import Derived.ProofKit
import Derived.OpenShut
import Derived.ShutString
import Derived.LaidMore
import Derived.SevenTiedAt
import Derived.Stop.Joined
namespace Go.Proofs.YtbcmgogfpboibaaGreatDoor.repairCounts
open Go.ChangeShapes Go.WideShapes Go.ChangeAt Go.RowKit
open Go.ChangeMaps (open_string shut_string)
open Plain Go.BigFrame
set_option linter.unusedVariables false

theorem own : ownKnob Tryz.prog.godebug = none := by kernel_rfl
theorem laidOut : laidOutB Tryz.prog = true := by kernel_rfl
theorem cellsS : Tryz.prog.cellsOf 9 = 1 := by kernel_rfl
theorem cellsI : Tryz.prog.cellsOf 3 = 1 := by kernel_rfl
theorem cellsR : Tryz.prog.cellsOf 22 = 1 := by kernel_rfl

set_option maxHeartbeats 1000000 in
theorem done_any {w : World} {f b : Nat} {cnt : Nat → Int} (h : FixIn w f b cnt) (k : Int) : Calls Tryz.prog 20 #[.pointer (some ⟨f, 0, none⟩), .int .i64 k] w fun e w' => e = .returned (.int .i64 (doneI cnt k)) ∧ w' = w := by
  have hK := known_any k w
  unfold doneI
  by_cases hb : 0 ≤ k ∧ k < 8
  · rw [if_pos hb]
    rw [show knB k = true from decide_eq_true hb] at hK
    obtain ⟨n, rfl⟩ : ∃ n : Nat, k = n := ⟨k.toNat, by omega⟩
    have hn : n < 8 := by omega
    have hc := h.c n hn
    rw [show ((n : Nat) : Int).toNat = n by omega]
    clear h hb
    go_enter Tryz.func20, Tryz.ntmps20
    go_wp2_with fail
    refine hK.mono ?_; rintro e w' ⟨rfl, rfl⟩
    go_wp2_with fail
    refine (count_load ⟨f, 1 + n, none⟩ (cnt n) _ hc).mono ?_; rintro e w' ⟨rfl, rfl⟩
    go_wp2
    go_ret
    exact ⟨rfl, rfl⟩
  · rw [if_neg hb]
    rw [show knB k = false from decide_eq_false hb] at hK
    clear hb h
    go_enter Tryz.func20, Tryz.ntmps20
    go_wp2_with fail
    refine hK.mono ?_; rintro e w' ⟨rfl, rfl⟩
    go_wp2
    go_ret
    exact ⟨rfl, rfl⟩
theorem done_nil (k : Value) (w : World) : Calls Tryz.prog 20 #[.pointer none, k] w fun e w' => e = .returned (.int .i64 0) ∧ w' = w := by
  go_enter Tryz.func20, Tryz.ntmps20
  go_wp2
  go_ret
  exact ⟨rfl, rfl⟩
theorem rows_slc {w : World} {v : Value} {l : List (Value × List Int)} (h : RowsIn w v l) : ∃ a len cap, v = .slice a len cap := by
  cases h with
  | empty a cap h => exact ⟨a, 0, cap, rfl⟩
  | some b off cap l h0 h1 h2 hc hi => exact ⟨_, _, cap, rfl⟩
theorem rows_cut {w : World} {a : Option Addr} {len cap : Nat} {l : List (Value × List Int)} (h : RowsIn w (.slice a len cap) l) (n : Nat) :
    ∃ m b off, ((len ≤ n ∧ m = len) ∨ (n < len ∧ m = n)) ∧ len ≤ cap ∧ cap ≤ 9223372036854775807 ∧ (0 < len → a = some ⟨b, off, none⟩) ∧ (∀ i, i < len → w.cell? ⟨b, off + i, none⟩ = some (l.getD i noR).1) ∧ (∀ i, i < len → IntsIn w (l.getD i noR).1 (l.getD i noR).2) := by
  have key : len = l.length ∧ len ≤ cap ∧ cap ≤ maxLen ∧ ∃ b off, (0 < len → a = some ⟨b, off, none⟩) ∧ (∀ i, i < len → w.cell? ⟨b, off + i, none⟩ = some (l.getD i noR).1) ∧ (∀ i, i < len → IntsIn w (l.getD i noR).1 (l.getD i noR).2) := by
    cases h with
    | empty a cap h => exact ⟨rfl, by omega, h, 0, 0, fun h => absurd h (by omega), fun i hi => absurd hi (by omega), fun i hi => absurd hi (by omega)⟩
    | some b off cap l h0 h1 h2 hc hi => exact ⟨rfl, h1, h2, b, off, fun _ => rfl, hc, hi⟩
  obtain ⟨e1, e2, e3, b, off, e4, e5, e6⟩ := key
  unfold maxLen at e3
  by_cases hn : len ≤ n
  · exact ⟨len, b, off, .inl ⟨hn, rfl⟩, e2, by omega, e4, e5, e6⟩
  · exact ⟨n, b, off, .inr ⟨by omega, rfl⟩, e2, by omega, e4, e5, e6⟩
/-- eight counts at block C. -/
structure CntIn (w : World) (C : Nat) (cnt : Nat → Int) : Prop where
  hC : C < w.heap.size
  c : ∀ j, j < 8 → w.cell? ⟨C, j, none⟩ = some (.int .i64 (cnt j))
  z : ∀ o, w.frozen? ⟨C, o, none⟩ = false
theorem CntIn.sp {w w' : World} {C : Nat} {cnt : Nat → Int} (h : CntIn w C cnt) {T : List Nat} (k : Sp T w w') (hC : C ∉ T) : CntIn w' C cnt :=
  ⟨Nat.lt_of_lt_of_le h.hC k.size, fun i hi => k.held (h.c i hi) hC, fun o => (k.frozen h.hC hC o).trans (h.z o)⟩
theorem CntIn.kp {w w' : World} {C : Nat} {cnt : Nat → Int} (h : CntIn w C cnt) (k : Kp w w') : CntIn w' C cnt := h.sp (k.sp []) (by simp)
theorem CntIn.up {w : World} {C : Nat} {cnt : Nat → Int} (h : CntIn w C cnt) (j : Nat) (hj : j < 8) : CntIn (w.setCell ⟨C, j, none⟩ (.int .i64 (cnt j + 1))) C (up cnt j) := by
  refine ⟨by simpa [World.setCell] using h.hC, fun i hi => ?_, fun o => (World.frozen?_setCell _ _ _ _).trans (h.z o)⟩
  unfold Go.Proofs.YtbcmgogfpboibaaGreatDoor.up
  by_cases e : i = j
  · subst e; rw [World.cell?_setCell_same _ _ _ (h.c i hi), if_pos rfl]
  · rw [cell_off _ _ _ _ _ e, h.c i hi, if_neg e]
theorem CntIn.new (w : World) (t : TypeId) : CntIn (w.alloc (.cells #[.int .i64 0, .int .i64 0, .int .i64 0, .int .i64 0, .int .i64 0, .int .i64 0, .int .i64 0, .int .i64 0] t)) w.heap.size (fun _ => 0) := by
  refine ⟨by simp, fun j hj => ?_, fun o => ?_⟩
  · rw [World.cell?_alloc_at _ _ _ _ rfl]
    have h : j = 0 ∨ j = 1 ∨ j = 2 ∨ j = 3 ∨ j = 4 ∨ j = 5 ∨ j = 6 ∨ j = 7 := by omega
    rcases h with rfl | rfl | rfl | rfl | rfl | rfl | rfl | rfl <;> rfl
  · rw [frozen?_alloc_cells]; simp [World.frozen?]
/-- Fix of a law's row answers Sort's error, and counts Sort's kind. -/
theorem fx_sort (D : List ByteArray) (lost : List Int) : fxE (rowL D) lost = srE (((rowL D).length : Int) - 2) lost ∧ (srE (((rowL D).length : Int) - 2) lost = 0 → ∃ kd : Nat, kd < 8 ∧ srK (((rowL D).length : Int) - 2) lost = (kd : Nat) ∧ ∀ cnt, fxC cnt (rowL D) lost = up cnt kd) ∧ (srE (((rowL D).length : Int) - 2) lost ≠ 0 → ∀ cnt, fxC cnt (rowL D) lost = cnt) := by
  by_cases hE : srE (((rowL D).length : Int) - 2) lost = 0
  · obtain ⟨h1, h2, hin, hl⟩ := sr_zero hE
    have hmk : mkE (rwL D) = 0 := rowL_some (by omega)
    have hF := rowL_fits hmk
    obtain ⟨l1, l2, l3⟩ := rowL_len hmk
    have hn := rw_ln D
    have hdk : ((rowL D).length : Int) - 2 = ((rwL D).length : Int) := by omega
    rw [hdk] at hE hin ⊢
    have hall : ∀ x, x ∈ lost → 0 ≤ x ∧ x < (((rwL D).length + 2 : Nat) : Int) := fun x hx => by have := in_all hin x hx; omega
    have hd := dst_gn ((rwL D).length + 2) lost hall
    have hg : (gn ((rwL D).length + 2) lost).length ≤ 2 := by rw [hd, List.length_map] at hl; exact hl
    obtain ⟨x1, x2, x3⟩ := fx_kept hF l2 l3 (by omega) lost (in_all hin) hg
    refine ⟨by rw [x1, hE], fun _ => ⟨kdN (rwL D).length (gn ((rwL D).length + 2) lost), kdN_lt _ _, ?_, x3⟩, fun h => absurd hE h⟩
    unfold srK
    rw [if_pos hE, hd]
    exact kd_is _ _ hg (gn_lt _ _) (fun x hx => ((gn_mem _ _ x).1 hx).1)
  · obtain ⟨e1, _, e3⟩ := fx_not hE
    exact ⟨e1, fun h => absurd h hE, fun _ => e3⟩
theorem rowL_small (D : List ByteArray) : ∀ i, i < (rowL D).length → ((rowL D).getD i noS).size ≤ maxLen := fun i hi => by
  have hmk : mkE (rwL D) = 0 := rowL_some (by omega)
  have := rw_ln D
  rw [(rowL_fits hmk).sz.at i hi]; unfold maxLen; omega
theorem rowL_le (D : List ByteArray) : (rowL D).length ≤ 32 := by
  by_cases h : 0 < (rowL D).length
  · have := rowL_len (rowL_some h); omega
  · omega


set_option maxRecDepth 100000 in
set_option maxHeartbeats 8000000 in
theorem walk (w : World) (hN : Names w) (a0 : Value) (l0 : List ByteArray) (a1 : Value) (l1 : List (Value × List Int)) (w0 : StrsIn w a0 l0) (x0 : ∀ i, i < l0.length → (l0.getD i noS).size ≤ maxLen) (w1 : RowsIn w a1 l1) :
    Calls Tryz.prog 8 #[a0, a1] w fun e w' => e = .returned (.bool true) ∧ Kp w w' := by
  obtain ⟨i0, hi, hz0, hz1, hz2⟩ := info_parts info_str5
  obtain ⟨sa, slen, scap, rfl⟩ := rows_slc w1
  obtain ⟨a, len, cap, rfl⟩ := w0.slc
  obtain ⟨m0, D, hm, hc1, hc2, hD, hDs⟩ := row_cut w0 x0 10
  have hrow := row_any _ D hDs w hD
  have hmn : min (len : Int) 10 = (m0 : Int) := by omega
  have hmc : m0 ≤ cap := by omega
  clear w0 x0 hD hDs hm
  obtain ⟨sm, sb, so, hsm, s1, s2, s3, s4, s5⟩ := rows_cut w1 30
  have hsn : min (slen : Int) 30 = (sm : Int) := by omega
  have hsc : sm ≤ scap := by omega
  have hs30 : sm ≤ 30 := by omega
  clear w1 hsm
  go_enter Tryz.func8, Tryz.ntmps8
  go_wp2_with fail
  refine hrow.mono ?_; rintro e w1 ⟨va, rfl, hA, k1⟩
  clear hmn hrow hmc hc1 hc2
  go_wp2_with fail
  refine (fnew_any w1).mono ?_; rintro e w2 ⟨f, b, rfl, hF, k2, f2, b2⟩
  obtain ⟨A, hAe⟩ : ∃ A, A = rowL D := ⟨_, rfl⟩
  rw [← hAe] at hA
  have HAE : Hid (A = rowL D) := hAe
  obtain ⟨aa, ab, ao, ac, rfl, p1, p2, p3, p4⟩ := hA.parts
  have HA : Hid (StrsIn w1 (.slice aa A.length ac) A) := hA
  unfold maxLen at p2
  have hA32 : A.length ≤ 32 := by rw [HAE.out]; exact rowL_le D
  have HFB : Hid (w1.heap.size ≤ f ∧ w1.heap.size ≤ b ∧ f < w2.heap.size ∧ b < w2.heap.size) := ⟨f2, b2, hF.hf, hF.hb⟩
  have HKW : Hid (Kp w w1) := k1
  have HF2 : Hid (FixIn w2 f b (fun _ => 0)) := hF
  have HK2 : Hid (Kp w1 w2) := k2
  have HS4 : Hid (∀ i, i < slen → w.cell? ⟨sb, so + i, none⟩ = some (l1.getD i noR).1) := s4
  have HS5 : Hid (∀ i, i < slen → IntsIn w (l1.getD i noR).1 (l1.getD i noR).2) := s5
  obtain ⟨C, hC⟩ : ∃ C, C = w2.heap.size := ⟨_, rfl⟩
  have HC : Hid (C = w2.heap.size) := hC
  have hsms : sm ≤ slen := by omega
  clear hAe hA p4 p3 hF k1 k2 f2 b2 s4 s5 hC
  go_wp2
  rw [← HC.out]
  go_loopw [31] (fun iv wr => ∃ i : Nat, i ≤ sm ∧ iv = .int .i64 i ∧ ∃ cnt : Nat → Int, FixIn wr f b cnt ∧ CntIn wr C cnt ∧ (∀ j, j < 8 → 0 ≤ cnt j ∧ cnt j ≤ (i : Int)) ∧ Kp w1 wr) (fun iv _ => sm - (intOf iv).toNat)
  case atStart =>
    refine ⟨0, Nat.zero_le _, rfl, fun _ => 0, HF2.out.kp ((Kp.refl w2).alloc _), ?_, fun j _ => ⟨Int.le_refl 0, Int.le_refl 0⟩, HK2.out.alloc _⟩
    rw [HC.out]; exact CntIn.new w2 50
  case round =>
    obtain ⟨i, hil, rfl, cnt, hFx, hCx, hcnt, hK⟩ := hrel
    have HFX : Hid (FixIn wr f b cnt) := hFx
    have HCX : Hid (CntIn wr C cnt) := hCx
    have HK : Hid (Kp w1 wr) := hK
    clear hFx hCx hK HF2 HK2
    by_cases hlt : i < sm
    · obtain rfl := s3 (by omega)
      have hcell := (HKW.out.trans HK.out).held (HS4.out i (by omega))
      have hIn := HS5.out i (by omega)
      obtain ⟨rv, hrv⟩ : ∃ x, x = (l1.getD i noR).1 := ⟨_, rfl⟩
      obtain ⟨rl, hrl⟩ : ∃ x, x = (l1.getD i noR).2 := ⟨_, rfl⟩
      rw [← hrv] at hcell hIn
      rw [← hrl] at hIn
      clear hrv hrl
      obtain ⟨ra, rlen, rcap, rfl⟩ : ∃ a len cap, rv = .slice a len cap := by
        cases hIn with
        | empty a cap h => exact ⟨a, 0, cap, rfl⟩
        | some b off cap l h0 h1 h2 hc => exact ⟨_, _, cap, rfl⟩
      obtain ⟨e1, e2, e3, e4⟩ := hIn.cut 5
      obtain ⟨rm, ql, hrm, hql, hqi⟩ : ∃ rm ql, ((rlen ≤ 5 ∧ rm = rlen) ∨ (5 < rlen ∧ rm = 5)) ∧ List.length ql ≤ 5 ∧ IntsIn w (.slice ra rm rcap) ql := by
        by_cases h5 : rlen ≤ 5
        · exact ⟨rlen, rl, .inl ⟨h5, rfl⟩, by omega, hIn⟩
        · exact ⟨5, rl.take 5, .inr ⟨by omega, rfl⟩, by rw [List.length_take]; omega, e4 (by omega)⟩
      have hrn : min (rlen : Int) 5 = (rm : Int) := by omega
      have hrc : rm ≤ rcap := by omega
      unfold maxLen at e3
      have hqi2 := hqi.kept (HKW.out.trans HK.out)
      have hSo := sort_any ((A.length : Int) - 2) _ ql (by omega) wr hqi2
      have hFi := fun (w' : World) (q : Kp wr w') => fix_any w' f b cnt (HFX.out.kp q) (fun j hj => by have := hcnt j hj; omega) _ _ A ql (HA.out.kept (HK.out.trans q)) (by rw [HAE.out]; exact rowL_small D) (hqi2.kept q) (by omega)
      obtain ⟨z1, z2, z3⟩ := fx_sort D ql
      rw [← HAE.out] at z1 z2 z3
      rw [z1] at hFi
      obtain ⟨E, hE⟩ : ∃ E, E = srE ((A.length : Int) - 2) ql := ⟨_, rfl⟩
      obtain ⟨KK, hKK⟩ : ∃ E, E = srK ((A.length : Int) - 2) ql := ⟨_, rfl⟩
      rw [← hE] at hSo hFi z2 z3
      rw [← hKK] at hSo z2
      have hEE : (E == E) = true := by simp
      clear z1 hE hKK hqi hqi2 e1 e2 e4 hIn hrm hql
      by_cases h0 : E = 0
      · obtain ⟨kd, hkd, hKd, hup⟩ := z2 h0
        subst h0
        subst hKd
        rw [hup] at hFi
        clear z3 hup hEE z2
        go_wp2_with fail
        refine hSo.mono ?_; rintro e w3 ⟨rfl, k3⟩
        have hFi2 := hFi w3 k3
        clear hSo hFi hcell hrn
        go_wp2_with fail
        refine hFi2.mono ?_; rintro e w4 ⟨v4, rfl, _, hF4, s4⟩
        have hC4 := (HCX.out.kp k3).sp s4 (by have := HC.out; have := HFB.out; simp; omega)
        have K14 : Kp w1 w4 := s4.kp (HK.out.trans k3) (by intro t ht; have := HFB.out; simp at ht; rcases ht with rfl | rfl <;> omega)
        have hck := hC4.c kd hkd
        have hzk := hC4.z kd
        have hcb := hcnt kd hkd
        have HF5 : Hid (FixIn (w4.setCell ⟨C, kd, none⟩ (.int .i64 (cnt kd + 1))) f b (up cnt kd)) := hF4.sp ((Sp.refl [C] w4).set C kd (by simp) _) (by have := HC.out; have := HFB.out; simp; omega) (by have := HC.out; have := HFB.out; simp; omega)
        have HC5 : Hid (CntIn (w4.setCell ⟨C, kd, none⟩ (.int .i64 (cnt kd + 1))) C (up cnt kd)) := hC4.up kd hkd
        have HK5 : Hid (Kp w1 (w4.setCell ⟨C, kd, none⟩ (.int .i64 (cnt kd + 1)))) := K14.set C kd (by have := HC.out; have := HFB.out; omega) _
        have HCN : Hid (∀ j, j < 8 → 0 ≤ up cnt kd j ∧ up cnt kd j ≤ (i : Int) + 1) := up_le hcnt kd
        obtain ⟨x, hx⟩ : ∃ x, x = cnt kd := ⟨_, rfl⟩
        rw [← hx] at hck hcb HF5 HC5 HK5
        clear hFi2 s4 hC4 K14 hF4 k3 hx
        go_wp2
        go_roundw
        case rel => exact ⟨i + 1, by omega, by go_num, up cnt kd, HF5.out, HC5.out, fun j hj => by have := HCN.out j hj; omega, HK5.out⟩
        case measure => simp [intOf] <;> omega
      · have hup := z3 h0
        rw [hup] at hFi
        have hEn : (E == 0) = false := by rw [beq_eq_false_iff_ne]; exact h0
        clear z3 hup z2 h0
        go_wp2_with fail
        refine hSo.mono ?_; rintro e w3 ⟨rfl, k3⟩
        have hFi2 := hFi w3 k3
        clear hSo hFi hcell hrn
        go_wp2_with fail
        refine hFi2.mono ?_; rintro e w4 ⟨v4, rfl, _, hF4, s4⟩
        have HF5 : Hid (FixIn w4 f b cnt) := hF4
        have HC5 : Hid (CntIn w4 C cnt) := (HCX.out.kp k3).sp s4 (by have := HC.out; have := HFB.out; simp; omega)
        have HK5 : Hid (Kp w1 w4) := s4.kp (HK.out.trans k3) (by intro t ht; have := HFB.out; simp at ht; rcases ht with rfl | rfl <;> omega)
        clear hFi2 s4 hF4 k3
        go_wp2
        go_roundw
        case rel => exact ⟨i + 1, by omega, by go_num, cnt, HF5.out, HC5.out, fun j hj => by have := hcnt j hj; omega, HK5.out⟩
        case measure => simp [intOf] <;> omega
    · obtain rfl : i = sm := by omega
      clear hcnt
      go_wp2
      go_loopw [14] (fun kv wq => ∃ j : Nat, j ≤ 8 ∧ kv = .int .i64 j ∧ FixIn wq f b cnt ∧ CntIn wq C cnt ∧ Kp w1 wq) (fun kv _ => 8 - (intOf kv).toNat)
      case atStart => exact ⟨0, Nat.zero_le _, rfl, HFX.out, HCX.out, HK.out⟩
      case round =>
        obtain ⟨j, hj8, rfl, hFx, hCx, hK⟩ := hrel
        have HF3 : Hid (FixIn wr f b cnt) := hFx
        have HC3 : Hid (CntIn wr C cnt) := hCx
        have HK3 : Hid (Kp w1 wr) := hK
        clear hFx hCx hK HFX HCX HK
        by_cases hj : j < 8
        · have hd : ∀ p, Calls Tryz.prog 20 #[.pointer (some ⟨f, 0, none⟩), .int .i64 (j : Int)] (kpw wr p) fun e w' => e = .returned (.int .i64 (cnt j)) ∧ w' = kpw wr p := fun p => by
            have H := done_any (HF3.out.kp (kpw_kp wr p)) (j : Int)
            unfold doneI at H
            rw [if_pos ⟨by omega, by omega⟩, show ((j : Nat) : Int).toNat = j by omega] at H
            exact H
          have hc : ∀ p, (kpw wr p).cell? ⟨C, j, none⟩ = some (.int .i64 (cnt j)) := fun p => kpw_cell (HC3.out.c j hj) p
          obtain ⟨x, hx⟩ : ∃ x, x = cnt j := ⟨_, rfl⟩
          rw [← hx] at hd hc
          have hxx : (x == x) = true := by simp
          clear hx
          go_wp2_with fail
          refine wp_region_kp (by kernel_rfl) (by kernel_rfl) ?_
          repeat (first
            | go_big_quiet_skip
            | (go_big_quiet_want; go_big_quiet_op; go_big_quiet_on)
            | (go_big_quiet_want; go_big_quiet_op; apply Exists.intro; refine ⟨fun p => ?_, ?_⟩; (focus
                first
                | (go_at_call 20; exact kp_same (hd p))); go_big_quiet_on))
          refine wpQuiet_nil ?_
          rintro w' ⟨p, rfl⟩
          clear hd hc
          go_wp2
          go_roundw
          case rel => exact ⟨j + 1, by omega, by go_num, HF3.out.kp (kpw_kp wr p), HC3.out.kp (kpw_kp wr p), HK3.out.trans (kpw_kp wr p)⟩
          case measure => simp [intOf] <;> omega
        · obtain rfl : j = 8 := by omega
          have hd1 := fun (w' : World) (q : Kp wr w') => done_any (HF3.out.kp q) (-1)
          have hd2 := fun (w' : World) (q : Kp wr w') => done_any (HF3.out.kp q) 8
          rw [show doneI cnt (-1) = 0 from rfl] at hd1
          rw [show doneI cnt 8 = 0 from rfl] at hd2
          go_wp2_with fail
          refine (fix_nil _ _ _).mono ?_; rintro e w5 ⟨rfl, rfl⟩
          go_wp2_with fail
          refine (wakes5 w5 (hN.kp (HKW.out.trans HK3.out))).mono ?_; rintro e w6 ⟨rfl, k6⟩
          go_wp2_with fail
          refine (done_nil _ _).mono ?_; rintro e w7 ⟨rfl, rfl⟩
          go_wp2_with fail
          refine (hd1 w7 k6).mono ?_; rintro e w8 ⟨rfl, rfl⟩
          go_wp2_with fail
          refine (hd2 w8 k6).mono ?_; rintro e w9 ⟨rfl, rfl⟩
          have HK9 : Hid (Kp w w9) := (HKW.out.trans HK3.out).trans k6
          clear hd1 hd2 k6
          go_wp2
          go_ret
          exact ⟨rfl, HK9.out⟩

set_option maxRecDepth 100000 in
theorem lifted (os : Os) (started : os.Started) (H : Type) (enc : TypeId × Value → H) :
    ReturnsInHanded {} Tryz.checked os 8 .any (fun w args => (Rows.repairCountsSpec.pre enc Tryz.prog Tryz.f8 [] false w args ∧ laidMetH Tryz.prog lz w) ∧ sizedMet enc Tryz.prog Tryz.f8 (OpenSpec.ofChange Rows.repairCountsSpec) false w args)
      (Rows.repairCountsSpec.post enc Tryz.prog Tryz.f8 false true false false) := by
  refine returnsInHanded_of_change_and (C := Tryz.checked) (X := fun w _ => laidMetH Tryz.prog lz w) (fun _ _ _ hh h => h.of_heap hh) own started (by kernel_rfl) Tryz.func8
    (ChangeSpec.witness_shaped (enc := enc) (C := Tryz.checked) (os := os) (X := fun w _ => laidMetH Tryz.prog lz w) false (World.doorLaid Tryz.prog 400 os) #[.slice none 0 0, .slice none 0 0] 8 rfl (World.shaped_of_RefB (by kernel_rfl) (by kernel_rfl)) (by kernel_rfl) (by kernel_rfl) (by kernel_rfl) (door_met os _)) ?_
  intro W base args ds gs before hval0 hW hcnd _ hL _
  have hval : ∀ (j : Nat) t v, Tryz.f8.params[j]? = some t → args[j]? = some v → Value.okWide Tryz.prog W .any base t v := hval0
  have hW' := hW
  have hlt := hW.lt
  obtain ⟨p, q, hA0, hV, rfl, hfz, hnd⟩ := hW
  have hA : DataW.TrodAll enc Tryz.prog W 0 (fun _ => true) true Tryz.f8.params.toList args.toList ds p := hA0
  have hAk := hA
  rw [Tryz.params8] at hA hval
  obtain ⟨v0, vs0, d0, ds0, p0, q0, hargs, rfl, rfl, h0, r0⟩ := trodAll_cons hA
  obtain ⟨v1, vs1, d1, ds1, p1, q1, rfl, rfl, rfl, h1, r1⟩ := trodAll_cons r0
  obtain ⟨rfl, rfl, rfl⟩ := trodAll_nil r1
  obtain rfl : args = #[v0, v1] := by cases args; simp_all
  obtain ⟨rfl, rfl⟩ := trodVars_none hV
  obtain ⟨l0, w0, x0⟩ := open_strs Tryz.underlying33 Tryz.underlying9 cellsS (hval 0 33 v0 rfl rfl) h0
  obtain ⟨l1, w1⟩ := open_rowsL Tryz.underlying49 Tryz.underlying22 Tryz.underlying3 cellsR cellsI (hval 1 49 v1 rfl rfl) h1
  clear hA0 hval0
  simp only [List.append_nil] at hW' hAk hlt
  refine (walk W (of_laid hL) v0 l0 v1 l1 w0 x0 w1).mono fun e W' ⟨he, hg⟩ => ?_
  subst he
  exact ⟨_, rfl, post_kp (pv := []) hW' (fun _ _ _ => (trodAll_cons_mk (shut_bool Tryz.underlying4 _) trodAll_mk0)) (fun sp hsp => trodAll_stays laidOut (by rw [Tryz.params8]; exact of_decide_eq_true (by kernel_rfl)) hAk (fun x hx => Below.same hg (hlt x hx)) hsp) (fun _ _ => rfl) (by simp) hg⟩

theorem over : Rows.repairCountsRow.holds Tryz.pinned (OpenSpec.ofChange Rows.repairCountsSpec) :=
  OpenClaim.holds_of_wide 8 Tryz.f8 rfl rfl rfl rfl rfl rfl rfl ⟨rfl, rfl, rfl, rfl, rfl⟩ rfl rfl rfl rfl rfl (by kernel_rfl) Tryz.func8 (by kernel_rfl)
    (of_decide_eq_true (by kernel_rfl)) (by unfold Func.isWrapper; first | (rw [if_pos (by decide +kernel)]; kernel_rfl) | (rw [if_neg (by decide +kernel)]; exact ⟨rfl, rfl⟩))
    (fun os started H enc _ => lifted os started H enc)

theorem card : Claim7.holds Tryz.pinned (.plain (OpenSpec.ofChange Rows.repairCountsSpec)) Rows.repairCountsCard :=
  Claim7.holds_tied_plain_at .later [] [.data] true Rows.repairCountsCard.stood.harness false
    over (fun _ h => by cases h) (by kernel_rfl) (fun _ h => by cases h) repairCounts_row_tie rfl ⟨rfl, rfl⟩ (by kernel_rfl) rfl
    (fun f fn hf hfn => by
      have e : some f = some 8 := hf.symm.trans (by kernel_rfl)
      obtain rfl := Option.some.inj e
      obtain rfl : fn = Tryz.f8 := (Option.some.inj (Tryz.func8.symm.trans hfn)).symm
      exact ⟨by kernel_rfl, fun j t ht => by
        rw [Tryz.params8] at ht
        have hm : t ∈ [33, 49] := by simpa using Array.mem_of_getElem? ht
        have hall : ([33, 49].all fun u => !Tryz.prog.wantsStandIn u) = true := by kernel_rfl
        exact (show Tryz.prog.wantsStandIn t = false by simpa using List.all_eq_true.1 hall t hm)⟩)
    (by kernel_rfl)

end Go.Proofs.YtbcmgogfpboibaaGreatDoor.repairCounts
namespace Go.Proofs.YtbcmgogfpboibaaGreatDoor
theorem repairCounts_holds : Rows.RepairCountsCardSaid := repairCounts.card
end Go.Proofs.YtbcmgogfpboibaaGreatDoor
