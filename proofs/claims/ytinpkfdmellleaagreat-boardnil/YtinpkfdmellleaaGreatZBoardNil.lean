/-
  BoardNil (P17.3, P17.4): of a nil board nothing is had; what its label's lists are changed to makes no difference. No condition.
-/
import Derived.Test.YtinpkfdmellleaaGreatRows
import Derived.Test.YtinpkfdmellleaaGreatZBase
import Derived.Test.YtinpkfdmellleaaGreatZBeg
import Derived.WalkKit
import Derived.ProofKit
import Derived.OpenShut
import Derived.ShutString
import Derived.Deep.QuietTactic
import Derived.BigQuiet
import Derived.Deep.RegionWith
import Derived.Deep.RegionHeld3
import Derived.Deep.CutRange
namespace Go.Proofs.YtinpkfdmellleaaGreat.boardNil
open Go.ChangeShapes Go.WideShapes Go.ChangeAt Go.RowKit
open Go.ChangeMaps (open_string shut_string)
open Go.Proofs.YtinpkfdmellleaaGreat Plain
set_option linter.unusedVariables false

theorem own : ownKnob Tryz.prog.godebug = none := by kernel_rfl
theorem laidOut : laidOutB Tryz.prog = true := by kernel_rfl
set_option maxRecDepth 100000 in
set_option maxHeartbeats 8000000 in
theorem walkN (w : World) (a : A5) (ha : A5Ok w a) :
    Calls Tryz.prog 7 #[a5V a] w fun e w' => e = .returned (.bool true) ∧ Kp w w' := by
  obtain ⟨op, i_, at_, odd, kv, KK⟩ := a
  unfold a5V a5cs
  simp only
  show Calls Tryz.prog 7 #[.agg #[.int .i64 op, .int .i64 i_, .int .i64 at_, .bool odd, kv]] w _
  obtain ⟨a0, c0, ek, _⟩ := ha.k.h
  have ek2 : kv = .slice a0 KK.length c0 := ek
  subst ek2
  obtain ⟨n0, hn0⟩ : ∃ n0, n0 = KK.length := ⟨_, rfl⟩
  rw [← hn0]
  clear ha hn0 ek
  obtain ⟨W, hW⟩ : ∃ W, W = w.alloc (.cells #[.int .i64 op, .int .i64 i_, .int .i64 at_, .bool odd, .slice a0 n0 c0] 30) := ⟨_, rfl⟩
  have k0 : Hid (Kp w W) := by show Kp w W; rw [hW]; exact (Kp.refl w).alloc _
  have r1 : Hid (W.cell? ⟨w.heap.size, 1, none⟩ = some (.int .i64 i_) ∧ W.cell? ⟨w.heap.size, 2, none⟩ = some (.int .i64 at_)) := by
    refine ⟨?_, ?_⟩ <;> (rw [hW, World.cell?_alloc_at _ _ _ _ rfl]; rfl)
  have HW := hid hW
  have A := hid (bg_all 0 0)
  have hK : Hid ((bgK 0 0).l = ⟨4, 1, 2, [0, 0, 0, 0], [0, 0, 0, 0]⟩) := A.out.k
  have hfe := field_ep
  have hfs := field_sts
  clear hW
  go_enter Tryz.func7, Tryz.ntmps7
  go_upto_region 1 with fail
  rw [← HW.out]
  clear HW
  go_wp2_with fail
  refine (next_nil _).mono ?_; rintro e v1 ⟨rfl, hv⟩
  subst v1
  go_wp2_with fail
  refine (open_nil _).mono ?_; rintro e v1 ⟨rfl, hv⟩
  subst v1
  have hBg := lbegin_any 0 0 ⟨by omega, by omega⟩ ⟨by omega, by omega⟩ W
  go_wp2_with fail
  refine hBg.mono ?_; rintro e w1 ⟨v, x, b, r, y, T, sv, mv, rfl, px, k1⟩
  have P1 := hid px
  have K1 := hid k1
  clear hBg px k1
  go_wp2_with fail
  refine (wakes17 _).mono ?_; rintro e w2 ⟨rfl, k2⟩
  have P2 : Hid (PX W w2 v x b r y T (bgK 0 0) sv mv) := P1.out.kp k2
  have K2 : Hid (Kp W w2) := K1.out.trans k2
  clear k2 P1
  have vc := P2.out.c1
  have hLa := label_any P2.out.kx (by rw [hK.out]; decide) (by rw [hK.out]; decide)
  rw [hK.out] at hLa
  unfold lV at hLa
  dsimp only at hLa
  go_wp2_with fail
  refine hLa.mono ?_; rintro e w3 ⟨y1, y2, rfl, tw, k3⟩
  obtain ⟨g1, c1, g2, c2, rfl, rfl, q1, q2, q3, q4, gne, f1, f2, cc1, cc2⟩ := tw.shape (by decide) (by decide)
  have lo1 := tw.lo1 g1 rfl
  have lo2 := tw.lo2 g2 rfl
  have y1 := cc1 0 (by decide)
  have y2 := cc2 1 (by decide)
  have hc1 : 4 ≤ c1 := q1
  have hc2 : 4 ≤ c2 := q3
  have K3 : Hid (Kp w2 w3) := k3
  have LN : Hid (Lc (w3.alloc (.cells #[.int .i64 4, .int .i64 1, .int .i64 2, .slice (some ⟨g1, 0, none⟩) 4 c1, .slice (some ⟨g2, 0, none⟩) 4 c2] 63)) w3.heap.size 4 1 2 (.slice (some ⟨g1, 0, none⟩) 4 c1) (.slice (some ⟨g2, 0, none⟩) 4 c2)) := Lc.new w3 _ _ _ _ _ _
  have KN : Hid (Kp w3 (w3.alloc (.cells #[.int .i64 4, .int .i64 1, .int .i64 2, .slice (some ⟨g1, 0, none⟩) 4 c1, .slice (some ⟨g2, 0, none⟩) 4 c2] 63))) := (Kp.refl w3).alloc _
  obtain ⟨V, hV⟩ : ∃ V, V = w3.alloc (.cells #[.int .i64 4, .int .i64 1, .int .i64 2, .slice (some ⟨g1, 0, none⟩) 4 c1, .slice (some ⟨g2, 0, none⟩) 4 c2] 63) := ⟨_, rfl⟩
  have HV := hid hV
  rw [← hV] at LN KN
  clear hLa tw k3 cc1 cc2 hV q1 q2 q3 q4
  go_upto_region 8 with fail
  rw [← HV.out]
  clear HV
  have z1 : V.cell? ⟨g1, 0, none⟩ = some (.int .i64 0) := KN.out.held y1
  have z2 : V.cell? ⟨g2, 1, none⟩ = some (.int .i64 0) := KN.out.held y2
  have fz1 : ∀ o, V.frozen? ⟨g1, o, none⟩ = false := fun o => ((KN.out.sp []).frozen lo1.2 (by simp) o).trans (f1 o)
  have fz2 : ∀ o, V.frozen? ⟨g2, o, none⟩ = false := fun o => ((KN.out.sp []).frozen lo2.2 (by simp) o).trans (f2 o)
  have gB1 : w3.heap.size ≠ g1 := by omega
  have gB2 : w3.heap.size ≠ g2 := by omega
  have gne' : g2 ≠ g1 := fun h => gne h.symm
  obtain ⟨d0, d1, d2, d3, d4⟩ := LN.out
  have HC : ∀ U, Sp [g1, g2] V U → U.cell? ⟨w3.heap.size, 3, none⟩ = some (.slice (some ⟨g1, 0, none⟩) 4 c1) ∧ U.cell? ⟨w3.heap.size, 4, none⟩ = some (.slice (some ⟨g2, 0, none⟩) 4 c2) := fun U k => ⟨k.held d3 (by simp [gB1, gB2]), k.held d4 (by simp [gB1, gB2])⟩
  clear y1 y2 f1 f2
  go_region_held3 (fun U => U.cell? ⟨w3.heap.size, 3, none⟩ = some (.slice (some ⟨g1, 0, none⟩) 4 c1) ∧ U.cell? ⟨w3.heap.size, 4, none⟩ = some (.slice (some ⟨g2, 0, none⟩) 4 c2)) (first | exact HC _ (Sp.refl _ _) | exact HC _ (Sp.refl _ _).drew | exact HC _ ((Sp.refl _ _).set g1 0 (by simp) _) | exact HC _ ((Sp.refl _ _).set g1 0 (by simp) _).drew | exact HC _ ((Sp.refl _ _).set g2 1 (by simp) _) | exact HC _ ((Sp.refl _ _).set g2 1 (by simp) _).drew | exact HC _ (((Sp.refl _ _).set g1 0 (by simp) _).set g2 1 (by simp) _) | exact HC _ (((Sp.refl _ _).set g1 0 (by simp) _).set g2 1 (by simp) _).drew) (fail)
  have SZ : Hid (Sp [g1, g2] V ((V.setCell ⟨g1, 0, none⟩ (.int .i64 1)).setCell ⟨g2, 1, none⟩ (.int .i64 7)).drew) := (((Sp.refl _ _).set g1 0 (by simp) _).set g2 1 (by simp) _).drew
  obtain ⟨Z, hZ⟩ : ∃ Z, Z = ((V.setCell ⟨g1, 0, none⟩ (.int .i64 1)).setCell ⟨g2, 1, none⟩ (.int .i64 7)).drew := ⟨_, rfl⟩
  rw [← hZ] at SZ ⊢
  have KV : Hid (Kp w2 V) := K3.out.trans KN.out
  have PZ : Hid (PX W Z v x b r y T (bgK 0 0) sv mv) := (P2.out.kp KV.out).sp SZ.out (fun t ht hm => by
    simp only [List.mem_cons, List.not_mem_nil, or_false] at hm
    have h1 : t < w2.heap.size := by
      rcases List.mem_cons.1 ht with e | e
      · rw [e]; exact World.block_lt_of_cell? _ _ P2.out.c0
      · rcases List.mem_cons.1 e with e | e
        · rw [e]; exact P2.out.kx.hx
        · exact OL.bw.low P2.out.kx.bay t e
    omega) (fun q hq hm => by
    simp only [List.mem_cons, List.not_mem_nil, or_false] at hm
    have h1 : q < w2.heap.size := hq.elim (fun h => (P2.out.kx.q1 q h).2) (fun h => (P2.out.kx.q2 q h).2)
    omega)
  have KZ : Hid (Kp W Z) := Sp.kp (K2.out.trans KV.out) SZ.out (fun t ht => by
    have := K2.out.size
    simp only [List.mem_cons, List.not_mem_nil, or_false] at ht
    rcases ht with rfl | rfl <;> omega)
  clear hZ HC d0 d1 d2 d3 d4 z1 z2 fz1 fz2 vc
  have b1 := KZ.out.held r1.out.1
  have b2 := KZ.out.held r1.out.2
  have vz := PZ.out.c1
  go_wp2_with fail
  refine (fail_nil i_ Z).mono ?_; rintro e v1 ⟨rfl, hv⟩
  subst v1
  go_wp2_with fail
  refine (replace_nil i_ Z).mono ?_; rintro e v1 ⟨rfl, hv⟩
  subst v1
  go_wp2_with fail
  refine (advance_nil i_ at_ Z).mono ?_; rintro e v1 ⟨rfl, hv⟩
  subst v1
  have hLn := label_nil Z
  unfold lV at hLn
  go_wp2_with fail
  refine hLn.mono ?_; rintro e w5 ⟨rfl, k5⟩
  have P5 : Hid (PX W w5 v x b r y T (bgK 0 0) sv mv) := PZ.out.kp k5
  have K5 : Hid (Kp W w5) := KZ.out.trans k5
  have vc5 := P5.out.c1
  clear hLn k5 b1 b2 vz
  have hL5 := label_any P5.out.kx (by rw [hK.out]; decide) (by rw [hK.out]; decide)
  rw [hK.out] at hL5
  unfold lV at hL5
  dsimp only at hL5
  go_wp2_with fail
  refine hL5.mono ?_; rintro e w6 ⟨y3, y4, rfl, tw6, k6⟩
  have hMi := lmiss_any ⟨4, 1, 2, [0, 0, 0, 0], [0, 0, 0, 0]⟩ y3 y4 w6 tw6.n1 tw6.n2
  have hms : ms ⟨4, 1, 2, [0, 0, 0, 0], [0, 0, 0, 0]⟩ = 0 := by
    unfold ms
    split
    · rfl
    · rfl
  rw [hms] at hMi
  unfold lV at hMi
  dsimp only at hMi
  have P6 : Hid (PX W w6 v x b r y T (bgK 0 0) sv mv) := P5.out.kp k6
  have K6 : Hid (Kp W w6) := K5.out.trans k6
  clear hL5 k6 tw6 vc5
  go_wp2_with fail
  refine hMi.mono ?_; rintro e w7 ⟨rfl, k7⟩
  have P7 : Hid (PX W w7 v x b r y T (bgK 0 0) sv mv) := P6.out.kp k7
  have K7 : Hid (Kp W w7) := K6.out.trans k7
  have vc7 := P7.out.c1
  have hL7 := label_any P7.out.kx (by rw [hK.out]; decide) (by rw [hK.out]; decide)
  rw [hK.out] at hL7
  unfold lV at hL7
  dsimp only at hL7
  clear hMi k7
  go_wp2_with fail
  refine hL7.mono ?_; rintro e w8 ⟨y5, y6, rfl, tw8, k8⟩
  have hGd := lgood_any ⟨4, 1, 2, [0, 0, 0, 0], [0, 0, 0, 0]⟩ y5 y6 w8 tw8.n1 tw8.n2
  rw [← hK.out, A.out.bo.good, hK.out] at hGd
  unfold lV at hGd
  dsimp only at hGd
  have K8 : Hid (Kp W w8) := K7.out.trans k8
  clear hL7 k8 tw8 vc7
  go_wp2_with fail
  refine hGd.mono ?_; rintro e w9 ⟨rfl, k9⟩
  have K9 : Hid (Kp w w9) := k0.out.trans (K8.out.trans k9)
  clear hGd k9
  go_wp2
  go_ret
  exact ⟨rfl, K9.out⟩
theorem walk (w : World) (a0 : A5) (w0 : A5Ok w a0) :
    Calls Tryz.prog 7 #[a5V a0] w fun e w' => e = .returned (.bool true) ∧ Kp w w' := by
  exact walkN w a0 w0

set_option maxRecDepth 100000 in
theorem lifted (os : Os) (started : os.Started) (H : Type) (enc : TypeId × Value → H) :
    ReturnsInHanded {} Tryz.checked os 7 .any (Rows.boardNilSpec.pre6 enc Tryz.prog Tryz.f7 Rows.boardNilRow.domain false) (Rows.boardNilSpec.post enc Tryz.prog Tryz.f7 false true false false) := by
  refine returnsInHanded_of_change (C := Tryz.checked) own started (by kernel_rfl) Tryz.func7
    (ChangeSpec.witness6 (enc := enc) (C := Tryz.checked) false ⟨#[], #[.agg #[.int .i64 0, .int .i64 0, .int .i64 0, .bool false, .slice none 0 0]], []⟩ 8 (by kernel_rfl) (by kernel_rfl) (by kernel_rfl) (by kernel_rfl)) ?_
  intro W base args ds gs before hval0 hW hcnd _
  have hval : ∀ (j : Nat) t v, Tryz.f7.params[j]? = some t → args[j]? = some v → Value.okWide Tryz.prog W .any base t v := hval0
  have hW' := hW
  have hlt := hW.lt
  obtain ⟨p, q, hA0, hV, rfl, hfz, hnd⟩ := hW
  have hA : DataW.TrodAll enc Tryz.prog W 0 (fun _ => true) true Tryz.f7.params.toList args.toList ds p := hA0
  have hAk := hA
  rw [Tryz.params7] at hA hval
  obtain ⟨v0, vs0, d0, ds0, p0, q0, hargs, rfl, rfl, h0, r0⟩ := trodAll_cons hA
  obtain ⟨rfl, rfl, rfl⟩ := trodAll_nil r0
  obtain rfl : args = #[v0] := by cases args; simp_all
  obtain ⟨rfl, rfl⟩ := trodVars_none hV
  obtain ⟨a0, rfl, w0⟩ := open_a5 (hval 0 30 v0 rfl rfl) h0
  clear hA0 hval0
  simp only [List.append_nil] at hW' hAk hlt
  refine (walk W a0 w0).mono fun e W' ⟨he, hg⟩ => ?_
  subst he
  exact ⟨_, rfl, post_kp (pv := []) hW' (fun _ _ _ => (trodAll_cons_mk (shut_bool Tryz.underlying4 _) trodAll_mk0)) (fun sp hsp => trodAll_stays laidOut (by rw [Tryz.params7]; exact of_decide_eq_true (by kernel_rfl)) hAk (fun x hx => Below.same hg (hlt x hx)) hsp) (fun _ _ => rfl) (by simp) hg⟩

theorem over : Rows.boardNilRow.holds Tryz.pinned (OpenSpec.ofChange Rows.boardNilSpec) :=
  OpenClaim.holds_of_wide 7 Tryz.f7 rfl rfl rfl rfl rfl rfl rfl ⟨rfl, rfl, rfl, rfl, rfl⟩ rfl rfl rfl rfl rfl (by kernel_rfl) Tryz.func7 (by kernel_rfl)
    (of_decide_eq_true (by kernel_rfl)) (by unfold Func.isWrapper; first | (rw [if_pos (by decide +kernel)]; kernel_rfl) | (rw [if_neg (by decide +kernel)]; exact ⟨rfl, rfl⟩))
    (fun os started H enc _ => lifted os started H enc)

end Go.Proofs.YtinpkfdmellleaaGreat.boardNil
namespace Go.Proofs.YtinpkfdmellleaaGreat
theorem boardNil_holds : Rows.BoardNilSaid := boardNil.over
end Go.Proofs.YtinpkfdmellleaaGreat
