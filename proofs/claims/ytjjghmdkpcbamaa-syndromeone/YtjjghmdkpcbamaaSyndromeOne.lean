/-
  For every list of texts, every two numbers and every byte the law function SyndromeOne returns true (Go: trunnionlaw04.SyndromeOne). No condition.
-/
import Derived.Test.YtjjghmdkpcbamaaRows
import Derived.Test.YtjjghmdkpcbamaaBufArgs
import Derived.Test.YtjjghmdkpcbamaaSynEdit
import Derived.WalkKit
import Derived.ProofKit
import Derived.OpenShut
import Derived.ShutString
import Derived.BigQuiet
import Derived.Deep.RegionWith
import Derived.Deep.DeepCutAuto
namespace Go.Proofs.Ytjjghmdkpcbamaa.syndromeOne
open Go.ChangeShapes Go.WideShapes Go.ChangeAt Go.RowKit
open Go.ChangeMaps (open_string shut_string)
open Go.Proofs.Ytjjghmdkpcbamaa Plain Go.BigFrame
set_option linter.unusedVariables false

theorem own : ownKnob Try.prog.godebug = none := by kernel_rfl
theorem laidOut : laidOutB Try.prog = true := by kernel_rfl
theorem cellsS : Try.prog.cellsOf 9 = 1 := by kernel_rfl
theorem cellsI : Try.prog.cellsOf 3 = 1 := by kernel_rfl
theorem cellsJ : Try.prog.cellsOf 42 = 2 := by kernel_rfl
set_option maxRecDepth 100000 in
set_option maxHeartbeats 8000000 in
theorem walk (w : World) (a0 : Value) (l0 : List ByteArray) (a1 b1 : Int) (a2 : Int) (w0 : StrsIn w a0 l0) (x0 : ∀ i, i < l0.length → (l0.getD i noS).size ≤ maxLen) (w1 : (Lit.int .i64 a1).wf = true) (x1 : (Lit.int .i64 b1).wf = true) (w2 : (Lit.int .u8 a2).wf = true) :
    Calls Try.prog 8 #[a0, .agg #[.int .i64 a1, .int .i64 b1], .int .u8 a2] w fun e w' => e = .returned (.bool true) ∧ Kp w w' := by
  have hy := bounds_u8 w2
  obtain ⟨y, rfl⟩ : ∃ n : Nat, a2 = n := ⟨a2.toNat, by omega⟩
  have hy8 : y < 256 := by omega
  clear hy
  have ha := bounds_i64 w1
  have hb := bounds_i64 x1
  obtain ⟨wb, hwb⟩ : ∃ w', w' = w.alloc (.cells #[.int .i64 a1, .int .i64 b1] 42) := ⟨_, rfl⟩
  have K0 : Kp w wb := by rw [hwb]; exact (Kp.refl w).alloc _
  have e0 : Laid wb w.heap.size 42 #[.int .i64 a1, .int .i64 b1] := by rw [hwb]; exact Laid.new _ _ _
  have HC := cut_any true a0 l0 x0 wb (w0.kept K0)
  have HB : Hid (w.heap.size < wb.heap.size) := e0.lt
  rw [hwb] at HC K0 e0
  go_enter Try.func8, Try.ntmps8
  go_wp2_with fail
  refine HC.mono ?_; rintro e w1 ⟨v, rfl, hown, k1⟩
  have K1 := K0.trans k1
  have e1 := e0.kept k1
  have hL := cutL_small true l0 (min l0.length 34)
  obtain ⟨L, hLe⟩ : ∃ L, L = cutL true l0 (min l0.length 34) := ⟨_, rfl⟩
  have hall : ∀ s ∈ L, s.size = (cutO (l0.getD 0 noS)).size := by rw [hLe]; exact cut_sizes _ _
  have hn60 := cutO_le (l0.getD 0 noS)
  obtain ⟨n, hn⟩ : ∃ n, n = (cutO (l0.getD 0 noS)).size := ⟨_, rfl⟩
  rw [← hn] at hall hn60
  rw [← hwb] at hown
  have hlen : min l0.length 34 = L.length := by rw [hLe, cutL_length]
  rw [← hLe, hlen] at hown
  rw [← hLe] at hL
  clear hLe w0 k1 K0 HC e0 hn hlen
  have hS1 : StrsIn w1 v L := StrsIn.owned hown
  obtain ⟨len, hle⟩ : ∃ len, len = L.length := ⟨_, rfl⟩
  rw [← hle] at hown
  have HLE : Hid (len = L.length) := hle
  clear hle
  rcases hown.2 with ⟨rfl, h00⟩ | ⟨g, cp, cur, rfl, hbg, hgg, hnc, hcm, hcs, htake⟩
  · subst h00
    clear hown e1 hwb
    go_wp2_with fail
    refine (wakes_any w1).mono ?_; rintro e wz ⟨rfl, kz⟩
    go_wp2
    go_ret
    exact ⟨rfl, K1.trans kz⟩
  clear hgg hcs htake cur
  unfold maxLen at hcm
  by_cases hl2 : len < 2
  · clear hown e1 hwb
    go_wp2_with fail
    refine (wakes_any w1).mono ?_; rintro e wz ⟨rfl, kz⟩
    go_wp2
    go_ret
    exact ⟨rfl, K1.trans kz⟩
  by_cases hl30 : 30 < len
  · clear hown e1 hwb
    go_wp2_with fail
    refine (wakes_any w1).mono ?_; rintro e wz ⟨rfl, kz⟩
    go_wp2
    go_ret
    exact ⟨rfl, K1.trans kz⟩
  have hcz := own_at hown HLE.out.symm 0 (by omega)
  have hzz : (L.getD 0 noS).size = n := hall _ (mem_of_at L 0 (by rw [← HLE.out]; omega))
  obtain ⟨z, hz⟩ : ∃ p, p = L.getD 0 noS := ⟨_, rfl⟩
  rw [← hz] at hcz hzz
  clear hz
  have hl2' : 2 ≤ len := by omega
  have hl30' : len ≤ 30 := by omega
  clear hl2 hl30
  by_cases hn0 : n = 0
  · rw [hn0] at hzz
    clear hown e1 hwb hn0
    go_wp2_with fail
    refine (wakes_any w1).mono ?_; rintro e wz ⟨rfl, kz⟩
    go_wp2
    go_ret
    exact ⟨rfl, K1.trans kz⟩
  have hn1 : 0 < n := by omega
  have hzn : ((n : Int) == 0) = false := by rw [beq_eq_false_iff_ne]; omega
  have hM := make_all (by rw [← HLE.out]; exact hl2') (by rw [← HLE.out]; exact hl30') hn60 hall hS1
  have hgw : w.heap.size ≤ g := by have := HB.out; omega
  have hgn : w.heap.size ≠ g := by have := HB.out; omega
  have hownw := own_low hown (Nat.le_of_lt HB.out)
  clear hL hS1 hown HB hwb hbg 
  obtain ⟨p, hp⟩ : ∃ p, p = parS n L := ⟨_, rfl⟩
  obtain ⟨q, hq⟩ : ∃ p, p = wgtS n L := ⟨_, rfl⟩
  rw [← hp, ← hq] at hM
  have HP : Hid (p = parS n L ∧ q = wgtS n L) := ⟨hp, hq⟩
  clear hp hq
  go_wp2_with fail
  refine hM.mono ?_; rintro e w3 ⟨rfl, k3⟩
  have K3 := K1.trans k3
  have hown3 := k3.own hownw
  have e3 := e1.kept k3
  clear k3 K1 hownw e1 hM hcz
  have c0 : w3.cell? ⟨w.heap.size, 0, none⟩ = some (.int .i64 a1) := e3.cell 0
  have c1 : w3.cell? ⟨w.heap.size, 1, none⟩ = some (.int .i64 b1) := e3.cell 1
  have hbx : w.heap.size < w3.heap.size := e3.lt
  clear e3
  obtain ⟨j, hj⟩ : ∃ k : Nat, (k : Int) = max 0 a1 % (len : Int) := ⟨(max 0 a1 % (len : Int)).toNat, by have := Int.emod_nonneg (max 0 a1) (show (len : Int) ≠ 0 by omega); omega⟩
  have hjl : j < len := by have := Int.emod_lt_of_pos (max 0 a1) (show (0 : Int) < (len : Int) by omega); omega
  have HJ : Hid ((j : Int) = max 0 a1 % (len : Int)) := hj
  clear hj
  go_upto_region 5 with fail
  go_cut [11] (fun s wx => s = .int .i64 (j : Nat) ∧ wx = w3)
  case first =>
    go_wp2_with fail
    · have hm : max 0 a1 = a1 := by omega
      go_meet
      exact ⟨by rw [HJ.out, hm], rfl⟩
    · have hm : max 0 a1 = 0 := by omega
      go_meet
      exact ⟨by rw [HJ.out, hm, Int.zero_emod], rfl⟩
  obtain ⟨rfl, hwc⟩ := hcut
  rw [hwc]
  clear hwc HJ c0
  have hcj := own_at hown3 HLE.out.symm j hjl
  have hos : (L.getD j noS).size = n := hall _ (mem_of_at L j (by rw [← HLE.out]; exact hjl))
  obtain ⟨o, ho⟩ : ∃ o, o = L.getD j noS := ⟨_, rfl⟩
  rw [← ho] at hcj hos
  have HO : Hid (o = L.getD j noS) := ho
  clear ho
  obtain ⟨c, W4, hcv, k4, hz4, hB⟩ := bytes_of w3 o
  rw [hos] at hcv hB
  go_upto_region 7 with fail
  clear hcv hcj
  obtain ⟨m, hm⟩ : ∃ k : Nat, (k : Int) = max 0 b1 % (n : Int) := ⟨(max 0 b1 % (n : Int)).toNat, by have := Int.emod_nonneg (max 0 b1) (show (n : Int) ≠ 0 by omega); omega⟩
  have hmn : m < n := by have := Int.emod_lt_of_pos (max 0 b1) (show (0 : Int) < (n : Int) by omega); omega
  have HM : Hid ((m : Int) = max 0 b1 % (n : Int)) := hm
  clear hm
  have K4 := K3.trans k4
  have hown4 := k4.own hown3
  have c1' := k4.held c1
  have hg3 : g < w3.heap.size := World.block_lt_of_cell? w3 ⟨g, 0, none⟩ (own_at hown3 HLE.out.symm 0 (by omega))
  clear K3 k4 hown3 c1
  obtain ⟨B, hBe⟩ : ∃ B, B = w3.heap.size := ⟨_, rfl⟩
  rw [← hBe] at hB hg3 hbx hz4 ⊢
  clear hBe
  have hbm0 := hB.cell m hmn
  have hfm := hB.free m hmn
  have hx : bits .xor .u8 ((bAt o (m : Int) : Nat) : Int) (y : Int) = ((bAt o (m : Int) ^^^ y : Nat) : Int) := u8_xor_nat _ y (bAt_lt _ _) hy8
  obtain ⟨u, hu⟩ : ∃ u, u = bAt o (m : Int) ^^^ y := ⟨_, rfl⟩
  obtain ⟨u0, hu0⟩ : ∃ u, u = bAt o (m : Int) := ⟨_, rfl⟩
  have hbm : W4.cell? ⟨B, m, none⟩ = some (.int .u8 (u0 : Int)) := by rw [hu0]; exact hbm0
  clear hbm0
  rw [← hu, ← hu0] at hx
  have HU : Hid (u = bAt o (m : Int) ^^^ y) := hu
  clear hu hu0
  go_cut [12] (fun x wx => x = .slice (some ⟨B, 0, none⟩) n c ∧ wx = W4.setCell ⟨B, m, none⟩ (.int .u8 (u : Int)))
  case first =>
    by_cases hb0 : 0 < b1
    · have hmx : b1 % (n : Int) = (m : Int) := by rw [HM.out, show max 0 b1 = b1 by omega]
      clear hB
      go_wp2_with fail
      go_meet
      exact ⟨rfl, rfl⟩
    · obtain rfl : m = 0 := by have := HM.out; rw [show max 0 b1 = 0 by omega, Int.zero_emod] at this; omega
      clear hB
      go_wp2_with fail
      go_meet
      exact ⟨rfl, rfl⟩
  obtain ⟨rfl, hwc⟩ := hcut
  rw [hwc]
  clear hwc
  obtain ⟨W5, hW5⟩ : ∃ w', w' = W4.setCell ⟨B, m, none⟩ (.int .u8 (u : Int)) := ⟨_, rfl⟩
  have hB5 : Byt W5 B n (fun i => if i = m then u else bAt o (i : Int)) := by rw [hW5]; exact hB.set m u
  have K5 : Kp w W5 := by rw [hW5]; exact K4.set B m (Nat.le_of_lt hbx) _
  have hown5 : W5.ownsRow w.heap.size 9 1 (.slice (some ⟨g, 0, none⟩) len cp) len (L.map Value.string) := by rw [hW5]; exact ownsRow_setCell_other hown4 (by simp [Value.ownBlock]; omega) _
  rw [← hW5]
  clear hW5 hbm hfm hx K4 hown4 hB c1'
  have hcv := hB5.text c
  rw [HU.out, edS_is hos m y] at hcv
  have hts : (edS o m y).size = n := by rw [edS_size, hos]
  obtain ⟨t, ht⟩ : ∃ t, t = edS o m y := ⟨_, rfl⟩
  rw [← ht] at hcv hts
  have HT : Hid (t = edS o m y) := ht
  clear ht hB5 HU
  have hcj : W5.cell? ⟨g, j, none⟩ = some (.string o) := by rw [HO.out]; exact own_at hown5 HLE.out.symm j hjl
  have hfj := hown5.frozenAt j
  have hM2 := make_all (n := n) (M := L.set j t) (v := .slice (some ⟨g, 0, none⟩) len cp) (w := W5.setCell ⟨g, j, none⟩ (.string t)) (by rw [List.length_set, ← HLE.out]; exact hl2') (by rw [List.length_set, ← HLE.out]; exact hl30') hn60 (set_sizes hall hts j) (StrsIn.owned (base := w.heap.size) (e := 9) (by rw [List.length_set, ← HLE.out]; exact own_set hown5 j t))
  have K6 : Kp w (W5.setCell ⟨g, j, none⟩ (.string t)) := K5.set g j hgw _
  have hown6 := own_set hown5 j t
  have hjL : j < L.length := by rw [← HLE.out]; exact hjl
  by_cases hy0 : y = 0
  · subst hy0
    have hto : t = o := by rw [HT.out, edS_zero]
    have hset : L.set j t = L := by rw [hto, HO.out, set_self]
    rw [hset] at hM2 hown6
    rw [← HP.out.1, ← HP.out.2] at hM2
    have hF := fun w' (k : Kp (W5.setCell ⟨g, j, none⟩ (.string t)) w') => fits_any (.slice (some ⟨g, 0, none⟩) len cp) L (sizes_small hn60 hall) p q w' (StrsIn.owned (base := w.heap.size) (e := 9) (by rw [← HLE.out]; exact k.own hown6))
    have hFt : fitsB L p q = true := by rw [HP.out.1, HP.out.2]; exact fits_own (by rw [← HLE.out]; exact hl2') (by rw [← HLE.out]; exact hl30') hn60 hall
    rw [hFt] at hF
    clear hset hto hFt hown5 hown6 hall
    go_wp2_with fail
    refine hM2.mono ?_; rintro e w7 ⟨rfl, k7⟩
    have K7 := K6.trans k7
    clear hcv hcj hfj hM2 K6
    go_wp2_with fail
    refine (wakes_any w7).mono ?_; rintro e w8 ⟨rfl, k8⟩
    have K8 := K7.trans k8
    go_wp2_with fail
    refine (hF w8 (k7.trans k8)).mono ?_; rintro e w9 ⟨rfl, k9⟩
    have K9 := K8.trans k9
    clear hF k7 k8 k9 K7 K8
    go_wp2
    go_ret
    exact ⟨rfl, K9⟩
  · have hne := edS_ne o m y (by omega) hy8 hy0
    rw [← HT.out, HO.out] at hne
    have h1 := one_par hall hjL hts hmn hne
    have h2 := one_wgt (n := n) hjL hmn hne
    have hFt : fitsB (L.set j t) p q = false := fits_other (by
      rw [HP.out.1, (mk_all (by rw [List.length_set, ← HLE.out]; exact hl2') (by rw [List.length_set, ← HLE.out]; exact hl30') (by omega) (set_sizes hall hts j)).2.1]
      exact fun e => h1 e.symm)
    have hF := fun w' (k : Kp (W5.setCell ⟨g, j, none⟩ (.string t)) w') => fits_any (.slice (some ⟨g, 0, none⟩) len cp) (L.set j t) (sizes_small hn60 (set_sizes hall hts j)) p q w' (StrsIn.owned (base := w.heap.size) (e := 9) (by rw [List.length_set, ← HLE.out]; exact k.own hown6))
    rw [hFt] at hF
    rw [← HP.out.1] at h1
    rw [← HP.out.2] at h2
    have q1 := text_ne h1
    have q2 := text_ne h2
    obtain ⟨r, hr⟩ : ∃ r, r = parS n (L.set j t) := ⟨_, rfl⟩
    obtain ⟨r', hr'⟩ : ∃ r, r = wgtS n (L.set j t) := ⟨_, rfl⟩
    rw [← hr, ← hr'] at hM2
    rw [← hr] at q1
    rw [← hr'] at q2
    have hyn : ((y : Int) == 0) = false := by rw [beq_eq_false_iff_ne]; omega
    clear hr hr' h1 h2 hne hFt hown5 hown6 hall hy0
    go_wp2_with fail
    refine hM2.mono ?_; rintro e w7 ⟨rfl, k7⟩
    have K7 := K6.trans k7
    clear hcv hcj hfj hM2 K6
    go_wp2_with fail
    refine (wakes_any w7).mono ?_; rintro e w8 ⟨rfl, k8⟩
    have K8 := K7.trans k8
    go_wp2_with fail
    refine (hF w8 (k7.trans k8)).mono ?_; rintro e w9 ⟨rfl, k9⟩
    have K9 := K8.trans k9
    clear hF k7 k8 k9 K7 K8
    go_wp2
    go_ret
    exact ⟨rfl, K9⟩


set_option maxRecDepth 100000 in
theorem lifted (os : Os) (started : os.Started) (H : Type) (enc : TypeId × Value → H) :
    ReturnsInHanded {} Try.checked os 8 .any (Rows.syndromeOneSpec.pre6 enc Try.prog Try.f8 Rows.syndromeOneRow.domain false) (Rows.syndromeOneSpec.post enc Try.prog Try.f8 false true false false) := by
  refine returnsInHanded_of_change (C := Try.checked) own started (by kernel_rfl) Try.func8
    (ChangeSpec.witness6 (enc := enc) (C := Try.checked) false ⟨#[], #[.slice none 0 0, .agg #[.int .i64 0, .int .i64 0], .int .u8 0], []⟩ 8 (by kernel_rfl) (by kernel_rfl) (by kernel_rfl) (by kernel_rfl)) ?_
  intro W base args ds gs before hval0 hW hcnd _
  have hval : ∀ (j : Nat) t v, Try.f8.params[j]? = some t → args[j]? = some v → Value.okWide Try.prog W .any base t v := hval0
  have hW' := hW
  have hlt := hW.lt
  obtain ⟨p, q, hA0, hV, rfl, hfz, hnd⟩ := hW
  have hA : DataW.TrodAll enc Try.prog W 0 (fun _ => true) true Try.f8.params.toList args.toList ds p := hA0
  have hAk := hA
  rw [Try.params8] at hA hval
  obtain ⟨v0, vs0, d0, ds0, p0, q0, hargs, rfl, rfl, h0, r0⟩ := trodAll_cons hA
  obtain ⟨v1, vs1, d1, ds1, p1, q1, rfl, rfl, rfl, h1, r1⟩ := trodAll_cons r0
  obtain ⟨v2, vs2, d2, ds2, p2, q2, rfl, rfl, rfl, h2, r2⟩ := trodAll_cons r1
  obtain ⟨rfl, rfl, rfl⟩ := trodAll_nil r2
  obtain rfl : args = #[v0, v1, v2] := by cases args; simp_all
  obtain ⟨rfl, rfl⟩ := trodVars_none hV
  obtain ⟨l0, w0, x0⟩ := open_strs Try.underlying22 Try.underlying9 cellsS (hval 0 22 v0 rfl rfl) h0
  obtain ⟨a1, b1, rfl, w1, x1⟩ := open_ints2 Try.underlying42 Try.underlying3 cellsI cellsJ (hval 1 42 v1 rfl rfl) h1
  obtain ⟨a2, rfl, rfl, rfl, w2⟩ := open_int Try.underlying5 (hval 2 5 v2 rfl rfl) h2
  clear hA0 hval0
  simp only [List.append_nil] at hW' hAk hlt
  refine (walk W v0 l0 a1 b1 a2 w0 x0 w1 x1 w2).mono fun e W' ⟨he, hg⟩ => ?_
  subst he
  exact ⟨_, rfl, post_kp (pv := []) hW' (fun _ _ _ => (trodAll_cons_mk (shut_bool Try.underlying4 _) trodAll_mk0)) (fun sp hsp => trodAll_stays laidOut (by rw [Try.params8]; exact of_decide_eq_true (by kernel_rfl)) hAk (fun x hx => Below.same hg (hlt x hx)) hsp) (fun _ _ => rfl) (by simp) hg⟩

theorem over : Rows.syndromeOneRow.holds Try.pinned (OpenSpec.ofChange Rows.syndromeOneSpec) :=
  OpenClaim.holds_of_wide 8 Try.f8 rfl rfl rfl rfl rfl rfl rfl ⟨rfl, rfl, rfl, rfl, rfl⟩ rfl rfl rfl rfl rfl (by kernel_rfl) Try.func8 (by kernel_rfl)
    (of_decide_eq_true (by kernel_rfl)) (by unfold Func.isWrapper; first | (rw [if_pos (by decide +kernel)]; kernel_rfl) | (rw [if_neg (by decide +kernel)]; exact ⟨rfl, rfl⟩))
    (fun os started H enc _ => lifted os started H enc)

end Go.Proofs.Ytjjghmdkpcbamaa.syndromeOne
namespace Go.Proofs.Ytjjghmdkpcbamaa
theorem syndromeOne_holds : Rows.SyndromeOneSaid := syndromeOne.over
end Go.Proofs.Ytjjghmdkpcbamaa
