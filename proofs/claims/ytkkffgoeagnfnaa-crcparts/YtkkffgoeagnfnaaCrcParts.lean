/-
  For every text and every place the law function CrcParts returns true (Go: trunnionlaw06.CrcParts). No condition.
-/
import Derived.Test.YtkkffgoeagnfnaaRows
import Derived.Test.YtkkffgoeagnfnaaBufArgs
import Derived.Test.YtkkffgoeagnfnaaCrcWakes
import Derived.Test.YtkkffgoeagnfnaaBufCls
import Derived.WalkKit
import Derived.ProofKit
import Derived.OpenShut
import Derived.ShutString
namespace Go.Proofs.Ytkkffgoeagnfnaa.crcParts
open Go.ChangeShapes Go.WideShapes Go.ChangeAt Go.RowKit
open Go.ChangeMaps (open_string shut_string)
open Go.Proofs.Ytkkffgoeagnfnaa Plain
set_option linter.unusedVariables false

theorem own : ownKnob Try.prog.godebug = none := by kernel_rfl
theorem laidOut : laidOutB Try.prog = true := by kernel_rfl
theorem bf_cut (s : ByteArray) (a e : Nat) (h : a ≤ e) (he : e ≤ s.size) (i : Nat) (hi : i < e - a) : bf (s.extract a e) i = bf s (a + i) := by
  have hz : (s.extract a e).size = e - a := by rw [ByteArray.size_extract]; omega
  have h1 : i < (s.extract a e).size := by omega
  unfold bf
  rw [bAt_nat _ i h1, bAt_nat _ (a + i) (by omega), ByteArray.getElem_extract]
theorem sm_cut (s : ByteArray) (a e : Nat) (h : a ≤ e) (he : e ≤ s.size) : smN (bf (s.extract a e)) (s.extract a e).size = smN (fun i => bf s (a + i)) (e - a) := by
  have hz : (s.extract a e).size = e - a := by rw [ByteArray.size_extract]; omega
  rw [hz]
  unfold smN mrN
  rw [rgS_congr _ _ (fun i hi => bf_cut s a e h he i hi)]
theorem mr_cut (q : Nat) (s : ByteArray) (a e : Nat) (h : a ≤ e) (he : e ≤ s.size) : mrN q (bf (s.extract a e)) (s.extract a e).size = mrN q (fun i => bf s (a + i)) (e - a) := by
  have hz : (s.extract a e).size = e - a := by rw [ByteArray.size_extract]; omega
  rw [hz]
  unfold mrN
  rw [rgS_congr _ _ (fun i hi => bf_cut s a e h he i hi)]
theorem jn_cut (f : Nat → Nat) (k m : Nat) (h : k ≤ m) : jnV (smN f k) (smN (fun i => f (k + i)) (m - k)) ((m : Int) - (k : Int)) = smN f m := by
  by_cases he : k = m
  · subst he
    rw [jnV_low _ _ _ (by omega)]
  · have e1 : (m : Int) - (k : Int) = ((m - k : Nat) : Int) := by omega
    rw [e1, jnV_nat _ _ _ (by omega), jn_parts, show k + (m - k) = m by omega]
set_option maxRecDepth 100000 in
set_option maxHeartbeats 4000000 in
theorem walkN (s : ByteArray) (hs : s.size ≤ 9223372036854775807) (at0 : Int) (h1 : -9223372036854775808 ≤ at0) (h2 : at0 ≤ 9223372036854775807) (w : World) :
    Calls Try.prog 5 #[.string s, .int .i64 at0] w fun e w' => e = .returned (.bool true) ∧ Kp w w' := by
  have hm : min (s.size : Int) 2000 = ((min s.size 2000 : Nat) : Int) := by omega
  have hms : min s.size 2000 ≤ s.size := by omega
  have hmn : min s.size 2000 ≤ 2000 := by omega
  generalize min s.size 2000 = m at *
  have ht : (s.extract 0 m).size = m := by rw [ByteArray.size_extract]; omega
  have hA : max (0 : Int) at0 = ((at0.toNat : Nat) : Int) := by omega
  have hA9 : at0.toNat ≤ 9223372036854775807 := by omega
  generalize at0.toNat = A at *
  have hK : (A : Int) % ((m : Int) + 1) = ((A % (m + 1) : Nat) : Int) := by rw [Int.natCast_emod, Int.natCast_add]; rfl
  have hKm : A % (m + 1) ≤ m := by have := Nat.mod_lt A (show m + 1 > 0 by omega); omega
  generalize A % (m + 1) = K at *
  go_enter Try.func5, Try.ntmps5
  go_wp2_with fail
  refine (wakes_any w).mono ?_; rintro e w1 ⟨rfl, R1, P1⟩
  go_wp2_with fail
  generalize s.extract 0 m = t at *
  subst ht
  have hKI : (K : Int) ≤ (t.size : Int) := by omega
  have h9 : t.size ≤ 9223372036854775807 := by omega
  have k3 : ∀ p, Ready (kpw w1 p) w.heap.size := fun p => TabIn.kept R1 (kpw_kp w1 p)
  have z1 : (t.extract 0 K).size ≤ 9223372036854775807 := by rw [ByteArray.size_extract]; omega
  have z2 : (t.extract K t.size).size ≤ 9223372036854775807 := by rw [ByteArray.size_extract]; omega
  have lS := smN_lt (bf t) (bf_lt t) t.size
  have lA := smN_lt (bf t) (bf_lt t) K
  have lB := smN_lt (fun i => bf t (K + i)) (fun i => bf_lt t _) (t.size - K)
  have e1 : smN (bf (t.extract 0 K)) (t.extract 0 K).size = smN (bf t) K := by
    rw [sm_cut t 0 K (by omega) hKm]
    unfold smN mrN
    rw [show K - 0 = K by omega]
    rw [rgS_congr _ _ (fun i _ => by rw [Nat.zero_add])]
  have e2 := sm_cut t K t.size hKm (Nat.le_refl _)
  have e3 : mrN (smN (bf t) K) (bf (t.extract K t.size)) (t.extract K t.size).size = smN (bf t) t.size := by
    rw [mr_cut _ t K t.size hKm (Nat.le_refl _), mr_parts, show K + (t.size - K) = t.size by omega]
  have e4 := jn_cut (bf t) K t.size hKm
  have c1 := fun p => kp_call (sum_kp w.heap.size (t.extract 0 K) z1 (kpw w1 p) (k3 p))
  have c2 := fun p => kp_call (sum_kp w.heap.size (t.extract K t.size) z2 (kpw w1 p) (k3 p))
  have c3 := fun p => kp_call (more_kp w.heap.size (smN (bf t) K) lA (t.extract K t.size) z2 (kpw w1 p) (k3 p))
  have c4 := fun p => kp_call (sum_kp w.heap.size t h9 (kpw w1 p) (k3 p))
  have c5 := fun p => kp_call (join_kp w.heap.size (smN (bf t) K) (smN (fun i => bf t (K + i)) (t.size - K)) lA lB ((t.size : Int) - (K : Int)) (by omega) (kpw w1 p) (k3 p))
  have c6 := fun p => kp_same (slow_any t h9 (kpw w1 p))
  rw [e1] at c1
  rw [e2] at c2
  rw [e3] at c3
  rw [e4] at c5
  clear e1 e2 e3 e4 z1 z2 k3
  generalize smN (bf t) t.size = S at *
  generalize smN (bf t) K = SA at *
  generalize smN (fun i => bf t (K + i)) (t.size - K) = SB at *
  refine wp_region_kp (by kernel_rfl) (by kernel_rfl) ?_
  repeat (first
    | go_big_quiet_skip
    | (go_big_quiet_want; go_big_quiet_op; go_big_quiet_on)
    | (go_big_quiet_want; go_big_quiet_op; apply Exists.intro; refine ⟨fun p => ?_, ?_⟩; (focus
        first
        | exact c1 p
        | exact c2 p
        | exact c3 p
        | exact c4 p
        | exact c5 p
        | exact c6 p); go_big_quiet_on))
  refine wpQuiet_nil ?_
  rintro w' ⟨p, rfl⟩
  go_wp2
  go_ret
  exact ⟨rfl, P1.trans (kpw_kp w1 p)⟩
theorem walk (w : World) (a0 : ByteArray) (a1 : Int) (w0 : a0.size ≤ maxLen) (w1 : (Lit.int .i64 a1).wf = true) :
    Calls Try.prog 5 #[.string a0, .int .i64 a1] w fun e w' => e = .returned (.bool true) ∧ Kp w w' := by
  have h1 := bounds_i64 w1
  exact walkN a0 (by unfold maxLen at w0; omega) a1 (by omega) (by omega) w

set_option maxRecDepth 100000 in
theorem lifted (os : Os) (started : os.Started) (H : Type) (enc : TypeId × Value → H) :
    ReturnsInHanded {} Try.checked os 5 .any (Rows.crcPartsSpec.pre6 enc Try.prog Try.f5 Rows.crcPartsRow.domain false) (Rows.crcPartsSpec.post enc Try.prog Try.f5 false true false false) := by
  refine returnsInHanded_of_change (C := Try.checked) own started (by kernel_rfl) Try.func5
    (ChangeSpec.witness6 (enc := enc) (C := Try.checked) false ⟨#[], #[.string ByteArray.empty, .int .i64 0], []⟩ 8 (by kernel_rfl) (by kernel_rfl) (by kernel_rfl) (by kernel_rfl)) ?_
  intro W base args ds gs before hval0 hW hcnd _
  have hval : ∀ (j : Nat) t v, Try.f5.params[j]? = some t → args[j]? = some v → Value.okWide Try.prog W .any base t v := hval0
  have hW' := hW
  have hlt := hW.lt
  obtain ⟨p, q, hA0, hV, rfl, hfz, hnd⟩ := hW
  have hA : DataW.TrodAll enc Try.prog W 0 (fun _ => true) true Try.f5.params.toList args.toList ds p := hA0
  have hAk := hA
  rw [Try.params5] at hA hval
  obtain ⟨v0, vs0, d0, ds0, p0, q0, hargs, rfl, rfl, h0, r0⟩ := trodAll_cons hA
  obtain ⟨v1, vs1, d1, ds1, p1, q1, rfl, rfl, rfl, h1, r1⟩ := trodAll_cons r0
  obtain ⟨rfl, rfl, rfl⟩ := trodAll_nil r1
  obtain rfl : args = #[v0, v1] := by cases args; simp_all
  obtain ⟨rfl, rfl⟩ := trodVars_none hV
  obtain ⟨a0, rfl, rfl, rfl, w0⟩ := open_string Try.underlying9 (hval 0 9 v0 rfl rfl) h0
  obtain ⟨a1, rfl, rfl, rfl, w1⟩ := open_int Try.underlying3 (hval 1 3 v1 rfl rfl) h1
  clear hA0 hval0
  simp only [List.append_nil] at hW' hAk hlt
  refine (walk W a0 a1 w0 w1).mono fun e W' ⟨he, hg⟩ => ?_
  subst he
  exact ⟨_, rfl, post_kp (pv := []) hW' (fun _ _ _ => (trodAll_cons_mk (shut_bool Try.underlying4 _) trodAll_mk0)) (fun sp hsp => trodAll_stays laidOut (by rw [Try.params5]; exact of_decide_eq_true (by kernel_rfl)) hAk (fun x hx => Below.same hg (hlt x hx)) hsp) (fun _ _ => rfl) (by simp) hg⟩

theorem over : Rows.crcPartsRow.holds Try.pinned (OpenSpec.ofChange Rows.crcPartsSpec) :=
  OpenClaim.holds_of_wide 5 Try.f5 rfl rfl rfl rfl rfl rfl rfl ⟨rfl, rfl, rfl, rfl, rfl⟩ rfl rfl rfl rfl rfl (by kernel_rfl) Try.func5 (by kernel_rfl)
    (of_decide_eq_true (by kernel_rfl)) (by unfold Func.isWrapper; first | (rw [if_pos (by decide +kernel)]; kernel_rfl) | (rw [if_neg (by decide +kernel)]; exact ⟨rfl, rfl⟩))
    (fun os started H enc _ => lifted os started H enc)

end Go.Proofs.Ytkkffgoeagnfnaa.crcParts
namespace Go.Proofs.Ytkkffgoeagnfnaa
theorem crcParts_holds : Rows.CrcPartsSaid := crcParts.over
end Go.Proofs.Ytkkffgoeagnfnaa
