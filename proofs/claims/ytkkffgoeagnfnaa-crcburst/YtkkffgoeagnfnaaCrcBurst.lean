/-
  For every text, every place and every number of 32 bits the law function CrcBurst returns true (Go: trunnionlaw06.CrcBurst). No condition.
-/
import Derived.Test.YtkkffgoeagnfnaaRows
import Derived.Test.YtkkffgoeagnfnaaBufArgs
import Derived.Test.YtkkffgoeagnfnaaCrcByt
import Derived.WalkKit
import Derived.ProofKit
import Derived.OpenShut
import Derived.ShutString
namespace Go.Proofs.Ytkkffgoeagnfnaa.crcBurst
open Go.ChangeShapes Go.WideShapes Go.ChangeAt Go.RowKit
open Go.ChangeMaps (open_string shut_string)
open Go.Proofs.Ytkkffgoeagnfnaa Plain
set_option linter.unusedVariables false

theorem own : ownKnob Try.prog.godebug = none := by kernel_rfl
theorem laidOut : laidOutB Try.prog = true := by kernel_rfl
set_option maxRecDepth 100000 in
set_option maxHeartbeats 4000000 in
theorem walkN (s : ByteArray) (hs : s.size ≤ 9223372036854775807) (at0 : Int) (h1 : -9223372036854775808 ≤ at0) (h2 : at0 ≤ 9223372036854775807) (y : Nat) (hy : y < 4294967296) (w : World) :
    Calls Try.prog 8 #[.string s, .int .i64 at0, .int .u32 y] w fun e w' => e = .returned (.bool true) ∧ Kp w w' := by
  have hm : min (s.size : Int) 300 = ((min s.size 300 : Nat) : Int) := by omega
  have hms : min s.size 300 ≤ s.size := by omega
  have hmn : min s.size 300 ≤ 300 := by omega
  generalize min s.size 300 = m at *
  have ht : (s.extract 0 m).size = m := by rw [ByteArray.size_extract]; omega
  have hA : max (0 : Int) at0 = ((at0.toNat : Nat) : Int) := by omega
  have hA9 : at0.toNat ≤ 9223372036854775807 := by omega
  generalize at0.toNat = A at *
  go_enter Try.func8, Try.ntmps8
  go_wp2_with fail
  refine (wakes_any w).mono ?_; rintro e w1 ⟨rfl, R1, P1⟩
  by_cases h4 : m < 4
  · go_wp2
    go_ret
    exact ⟨rfl, P1⟩
  obtain ⟨c, W2, hcv, k2, hz2, hB⟩ := bytes_of w1 (s.extract 0 m)
  rw [ht] at hcv hB
  have hK : (A : Int) % (8 * (m : Int) - 31) = ((A % (8 * m - 31) : Nat) : Int) := by
    rw [Int.natCast_emod]; congr 1; omega
  have hKm : A % (8 * m - 31) + 32 ≤ 8 * m := by have := Nat.mod_lt A (show 8 * m - 31 > 0 by omega); omega
  generalize A % (8 * m - 31) = K at *
  have HK : Hid (K + 32 ≤ 8 * m) := hKm
  have hK9 : K ≤ 2400 := by omega
  have hTB : Hid (w.heap.size < w1.heap.size) := R1.hb
  have R2 : Ready W2 w.heap.size := TabIn.kept R1 k2
  have P2 : Kp w W2 := P1.trans k2
  have h4I : ¬ (m : Int) < 4 := by omega
  go_wp2_with fail
  rw [hK]
  clear hcv R1 P1 k2 hK hA hA9 h1 h2 hm hms hs hKm h4
  generalize s.extract 0 m = t at *
  generalize w1.heap.size = B at *
  have hBz : w.heap.size ≤ B := Nat.le_of_lt hTB.out
  go_loopw [34] (fun i wr => ∃ j : Nat, j ≤ 32 ∧ i = .int .i64 j ∧ Byt wr B m (brs (bf t) K y j) ∧ Ready wr w.heap.size ∧ Kp w wr ∧ B < wr.heap.size) (fun i _ => 32 - (intOf i).toNat)
  case atStart => exact ⟨0, by omega, rfl, hB, R2, P2, hz2⟩
  case round =>
    clear hB R2 P2 hz2
    obtain ⟨j, hj, rfl, hB, R2, P2, hz2⟩ := hrel
    have hbl := brs_lt (bf t) (bf_lt t) K y j
    by_cases hlt : j < 32
    · have hbi := bit_u32 y j hy
      by_cases hb : y / 2 ^ j % 2 = 1
      · have htb : (bits .and .u32 ((y : Int) / 2 ^ j) 1 == 1) = true := by rw [hbi, hb]; rfl
        have HG : Hid (brs (bf t) K y (j + 1) = flp (brs (bf t) K y j) (K + j)) := by show _ = _; simp only [brs]; rw [if_pos hb]
        clear hbi hb
        generalize brs (bf t) K y j = g at *
        have hPm : (K + j) / 8 < m := by have := HK.out; omega
        have hc := hB.cell _ hPm
        have hf := hB.free _ hPm
        obtain ⟨x1, x2, x3, x4, x5, x6, x7⟩ := ix_all K j hK9 hlt
        have hR8 : (K + j) % 8 < 8 := Nat.mod_lt _ (by decide)
        obtain ⟨y1, y2, y3⟩ := sh_all ((K + j) % 8) hR8
        have HS : Hid (Byt (wr.drew.setCell ⟨B, (K + j) / 8, none⟩ (.int .u8 ((g ((K + j) / 8) ^^^ 2 ^ ((K + j) % 8) : Nat) : Int))) B m (flp g (K + j))) := flp_set (hB.kept (Kp.refl wr).drew hz2) (K + j)
        have HR : Hid (Ready (wr.drew.setCell ⟨B, (K + j) / 8, none⟩ (.int .u8 ((g ((K + j) / 8) ^^^ 2 ^ ((K + j) % 8) : Nat) : Int))) w.heap.size) := TabIn.other (TabIn.drew R2) ((Trd.refl B wr.drew).setCell _ _) (Nat.ne_of_lt hTB.out)
        have HP : Hid (Kp w (wr.drew.setCell ⟨B, (K + j) / 8, none⟩ (.int .u8 ((g ((K + j) / 8) ^^^ 2 ^ ((K + j) % 8) : Nat) : Int)))) := P2.drew.set B _ hBz _
        have hx := bit_turn (g ((K + j) / 8)) ((K + j) % 8) (hbl _) hR8
        have hPI : (((K + j) / 8 : Nat) : Int) < (m : Int) := Int.ofNat_lt.2 hPm
        have hRI : (((K + j) % 8 : Nat) : Int) < 8 := Int.ofNat_lt.2 hR8
        have HGG : Hid (brs (bf t) K y (j + 1) = flp g (K + j)) := HG.out
        have hz3 : Hid (B < (wr.drew.setCell ⟨B, (K + j) / 8, none⟩ (.int .u8 ((g ((K + j) / 8) ^^^ 2 ^ ((K + j) % 8) : Nat) : Int))).heap.size) := set_size hz2
        generalize hNN : K + j = N at *
        generalize N / 8 = P at *
        generalize hRR : N % 8 = R at *
        generalize g P ^^^ 2 ^ R = U at *
        generalize g P = u0 at *
        generalize (2 : Nat) ^ R = V at *
        clear hB R2 P2 hbl hz2 HG hRR
        clear hNN
        go_wp2_with fail
        go_region
        go_wp2
        go_roundw
        case rel => exact ⟨j + 1, by omega, by go_num, by rw [HGG.out]; exact HS.out, HR.out, HP.out, hz3.out⟩
        case measure => simp [intOf]; omega
      · have htb : (bits .and .u32 ((y : Int) / 2 ^ j) 1 == 1) = false := by rw [hbi, show y / 2 ^ j % 2 = 0 by omega]; rfl
        have HG : Hid (brs (bf t) K y (j + 1) = brs (bf t) K y j) := by show _ = _; simp only [brs]; rw [if_neg hb]
        clear hbi hb
        go_wp2
        go_roundw
        case rel => exact ⟨j + 1, by omega, by go_num, by rw [HG.out]; exact hB, R2, P2, hz2⟩
        case measure => simp [intOf]; omega
    · have hjj : j = 32 := by omega
      have HI := sm_brs (bf t) K y m hy HK.out
      have hcv := hB.text c
      have e1 := sm_bs m (brs (bf t) K y j) hbl
      have hsz : (bs m (brs (bf t) K y j)).size ≤ 9223372036854775807 := by rw [bs_size]; omega
      rw [← hjj] at HI
      have htz : t.size ≤ 9223372036854775807 := by omega
      obtain ⟨S1, hS1⟩ : ∃ x, smN (brs (bf t) K y j) m = x := ⟨_, rfl⟩
      obtain ⟨S0, hS0⟩ : ∃ x, smN (bf t) m = x := ⟨_, rfl⟩
      rw [hS1] at HI e1
      rw [hS0] at HI
      have H0 : Hid (smN (bf t) t.size = S0) := by show _ = _; rw [ht]; exact hS0
      have H1 : Hid (smN (bf (bs m (brs (bf t) K y j))) (bs m (brs (bf t) K y j)).size = S1) := e1
      obtain ⟨Bq, b1, b2⟩ : ∃ Bq : Bool, ((S1 : Int) == (S0 : Int)) = Bq ∧ ((y : Int) == 0) = Bq := by
        by_cases hy0 : y = 0
        · exact ⟨true, by rw [HI.2 hy0]; simp, by simp; omega⟩
        · refine ⟨false, ?_, by simp; omega⟩
          rw [beq_eq_false_iff_ne]
          intro hh
          exact hy0 (HI.1 (by omega))
      clear HI hS1 hS0 e1 hjj hbl hB
      generalize bs m (brs (bf t) K y j) = t2 at *
      go_wp2_with fail
      refine (sum_any w.heap.size t2 hsz _ (Or.inr R2)).mono ?_; rintro e w5 ⟨rfl, R5, T5⟩
      have P5 : Kp w w5 := P2.trd T5.trd (Nat.le_refl _)
      clear T5 hcv
      rw [H1.out]
      go_wp2_with fail
      refine (sum_any w.heap.size t htz _ (Or.inr R5)).mono ?_; rintro e w6 ⟨rfl, R6, T6⟩
      have P6 : Kp w w6 := P5.trd T6.trd (Nat.le_refl _)
      clear T6
      rw [H0.out]
      go_wp2
      go_ret
      exact ⟨rfl, P6⟩
theorem walk (w : World) (a0 : ByteArray) (a1 : Int) (a2 : Int) (w0 : a0.size ≤ maxLen) (w1 : (Lit.int .i64 a1).wf = true) (w2 : (Lit.int .u32 a2).wf = true) :
    Calls Try.prog 8 #[.string a0, .int .i64 a1, .int .u32 a2] w fun e w' => e = .returned (.bool true) ∧ Kp w w' := by
  have h1 := bounds_i64 w1
  have h2 := bounds_u32 w2
  obtain ⟨n2, rfl⟩ : ∃ n : Nat, a2 = n := ⟨a2.toNat, by omega⟩
  exact walkN a0 (by unfold maxLen at w0; omega) a1 (by omega) (by omega) n2 (by omega) w

set_option maxRecDepth 100000 in
theorem lifted (os : Os) (started : os.Started) (H : Type) (enc : TypeId × Value → H) :
    ReturnsInHanded {} Try.checked os 8 .any (Rows.crcBurstSpec.pre6 enc Try.prog Try.f8 Rows.crcBurstRow.domain false) (Rows.crcBurstSpec.post enc Try.prog Try.f8 false true false false) := by
  refine returnsInHanded_of_change (C := Try.checked) own started (by kernel_rfl) Try.func8
    (ChangeSpec.witness6 (enc := enc) (C := Try.checked) false ⟨#[], #[.string ByteArray.empty, .int .i64 0, .int .u32 0], []⟩ 8 (by kernel_rfl) (by kernel_rfl) (by kernel_rfl) (by kernel_rfl)) ?_
  intro W base args ds gs before hval0 hW hcnd _
  have hval : ∀ (j : Nat) t v, Try.f8.params[j]? = some t → args[j]? = some v → Value.okWide Try.prog W .any base t v := hval0
  have hW' := hW
  have hlt := hW.lt
  obtain ⟨p, q, hA0, hV, rfl, hfz, hnd⟩ := hW
  have hA : DataW.TrodAll enc Try.prog W 0 (fun _ => true) true Try.f8.params.toList args.toList ds p := hA0
  have hAk := hA
  rw [Try.params8] at hA hval
  obtain ⟨v0, vs0, d0, ds0, p0, q0, hargs, rfl, rfl, h0, r0⟩ := trodAll_cons hA
  obtain ⟨v1, vs1, d1, ds1, p1, q1, rfl, rfl, rfl, h1, r1⟩ := trodAll_cons r0
  obtain ⟨v2, vs2, d2, ds2, p2, q2, rfl, rfl, rfl, h2, r2⟩ := trodAll_cons r1
  obtain ⟨rfl, rfl, rfl⟩ := trodAll_nil r2
  obtain rfl : args = #[v0, v1, v2] := by cases args; simp_all
  obtain ⟨rfl, rfl⟩ := trodVars_none hV
  obtain ⟨a0, rfl, rfl, rfl, w0⟩ := open_string Try.underlying9 (hval 0 9 v0 rfl rfl) h0
  obtain ⟨a1, rfl, rfl, rfl, w1⟩ := open_int Try.underlying3 (hval 1 3 v1 rfl rfl) h1
  obtain ⟨a2, rfl, rfl, rfl, w2⟩ := open_int Try.underlying22 (hval 2 22 v2 rfl rfl) h2
  clear hA0 hval0
  simp only [List.append_nil] at hW' hAk hlt
  refine (walk W a0 a1 a2 w0 w1 w2).mono fun e W' ⟨he, hg⟩ => ?_
  subst he
  exact ⟨_, rfl, post_kp (pv := []) hW' (fun _ _ _ => (trodAll_cons_mk (shut_bool Try.underlying4 _) trodAll_mk0)) (fun sp hsp => trodAll_stays laidOut (by rw [Try.params8]; exact of_decide_eq_true (by kernel_rfl)) hAk (fun x hx => Below.same hg (hlt x hx)) hsp) (fun _ _ => rfl) (by simp) hg⟩

theorem over : Rows.crcBurstRow.holds Try.pinned (OpenSpec.ofChange Rows.crcBurstSpec) :=
  OpenClaim.holds_of_wide 8 Try.f8 rfl rfl rfl rfl rfl rfl rfl ⟨rfl, rfl, rfl, rfl, rfl⟩ rfl rfl rfl rfl rfl (by kernel_rfl) Try.func8 (by kernel_rfl)
    (of_decide_eq_true (by kernel_rfl)) (by unfold Func.isWrapper; first | (rw [if_pos (by decide +kernel)]; kernel_rfl) | (rw [if_neg (by decide +kernel)]; exact ⟨rfl, rfl⟩))
    (fun os started H enc _ => lifted os started H enc)

end Go.Proofs.Ytkkffgoeagnfnaa.crcBurst
namespace Go.Proofs.Ytkkffgoeagnfnaa
theorem crcBurst_holds : Rows.CrcBurstSaid := crcBurst.over
end Go.Proofs.Ytkkffgoeagnfnaa
