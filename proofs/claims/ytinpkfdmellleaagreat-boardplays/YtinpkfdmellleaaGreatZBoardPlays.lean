/-
  BoardPlays (P17.1 to P17.4): whichever members fail, are replaced, advanced, whatever is lost, however often it is opened: what a board answers, and its label, is what the document says. No condition.
-/
import Derived.Test.YtinpkfdmellleaaGreatRows
import Derived.Test.YtinpkfdmellleaaGreatZBase
import Derived.Test.YtinpkfdmellleaaGreatZBdPlay
import Derived.WalkKit
import Derived.ProofKit
import Derived.OpenShut
import Derived.ShutString
import Derived.Deep.QuietTactic
import Derived.BigQuiet
import Derived.Deep.RegionWith
import Derived.Deep.RegionHeld3
import Derived.Deep.CutRange
import Derived.Deep.DeepCutAuto
import Derived.Deep.CutBlock
namespace Go.Proofs.YtinpkfdmellleaaGreat.boardPlays
open Go.ChangeShapes Go.WideShapes Go.ChangeAt Go.RowKit
open Go.ChangeMaps (open_string shut_string)
open Go.Proofs.YtinpkfdmellleaaGreat Plain
set_option linter.unusedVariables false

theorem own : ownKnob Tryz.prog.godebug = none := by kernel_rfl
theorem laidOut : laidOutB Tryz.prog = true := by kernel_rfl
theorem cellsI : Tryz.prog.cellsOf 3 = 1 := by kernel_rfl
theorem cellsJ : Tryz.prog.cellsOf 22 = 2 := by kernel_rfl
set_option maxRecDepth 100000 in
set_option maxHeartbeats 20000000 in
theorem walkN (w : World) (a0 b0 : Int) (ha : -9223372036854775808 ≤ a0 ∧ a0 ≤ 9223372036854775807) (hb : -9223372036854775808 ≤ b0 ∧ b0 ≤ 9223372036854775807) (v1 : Value) (l1 : List A5) (i1 : Acts5 w v1 l1) :
    Calls Tryz.prog 3 #[.agg #[.int .i64 a0, .int .i64 b0], v1] w fun e w' => e = .returned (.bool true) ∧ Kp w w' := by
  obtain ⟨q1, c1, rfl, _⟩ := i1.h
  obtain ⟨n1, hn1⟩ : ∃ n1, n1 = l1.length := ⟨_, rfl⟩
  have z1 : n1 ≤ c1 ∧ c1 ≤ 9223372036854775807 := by obtain ⟨a, cap, e, h1, h2, _⟩ := i1.h; simp only [Value.slice.injEq] at e; omega
  obtain ⟨z1, z2⟩ := z1
  rw [← hn1] at i1 ⊢
  have N1 := hid hn1
  have I1 := hid i1
  clear i1 hn1
  have hmin := @imin Tryz.prog
  obtain ⟨m1, e1⟩ : ∃ m : Nat, min (n1 : Int) 40 = (m : Int) := ⟨min n1 40, by omega⟩
  have hm1 : m1 ≤ n1 := by omega
  have hm3 : m1 ≤ 40 := by omega
  obtain ⟨W, hW⟩ : ∃ W, W = w.alloc (.cells #[.int .i64 a0, .int .i64 b0] 22) := ⟨_, rfl⟩
  have k0 : Hid (Kp w W) := by show Kp w W; rw [hW]; exact (Kp.refl w).alloc _
  have r1 : W.cell? ⟨w.heap.size, 0, none⟩ = some (.int .i64 a0) := by rw [hW, World.cell?_alloc_at _ _ _ _ rfl]; rfl
  have r2 : W.cell? ⟨w.heap.size, 1, none⟩ = some (.int .i64 b0) := by rw [hW, World.cell?_alloc_at _ _ _ _ rfl]; rfl
  have HW := hid hW
  have hN7 : Hid (bgN a0 ≤ 32) := by have := (bg_all a0 b0).n7; show _ ≤ _; omega
  have hBg := lbegin_p a0 b0 ha hb W
  clear hW ha hb
  go_enter Tryz.func3, Tryz.ntmps3
  go_upto_region 1 with fail
  rw [← HW.out]
  clear HW
  go_wp2_with fail
  refine hBg.mono ?_; rintro e wa ⟨v, x, b, r, y, T, R, sv, mv, su, mu, rfl, px, k1⟩
  have P1 : Hid (Pr W wa v b r (bgK a0 b0) true) := by show Pr _ _ _ _ _ _ _; unfold Pr; rw [if_pos rfl]; exact ⟨x, y, T, R, sv, mv, su, mu, px⟩
  have K1 := hid k1
  have J0 := hid (bg_jv a0 b0)
  clear hBg px k1 r1 r2
  go_wp2_with fail
  refine (wakes17 _).mono ?_; rintro e wb ⟨rfl, k2⟩
  have P2 := hid (P1.out.kp k2)
  have K2 : Hid (Kp W wb) := K1.out.trans k2
  have hSm := same_step P2.out K2.out J0.out (by omega)
  clear k2 P1 K1
  go_wp2_with fail
  refine hSm.mono ?_; rintro e wc ⟨rfl, h2, k2⟩
  have PB := hid h2
  have KB := hid k2
  clear hSm h2 k2 P2 K2
  go_wp2_with fail
  go_loopw [31] (fun i wr => ∃ (k : Nat) (K : KS) (o : Bool), k ≤ m1 ∧ i = .int .i64 k ∧ Hid (Pr W wr v b r K o) ∧ Hid (Jv K o k (bgN a0)) ∧ Hid (Kp W wr)) (fun i _ => m1 - (intOf i).toNat)
  case atStart => exact ⟨0, _, true, by omega, by go_num, PB, J0, KB⟩
  case round =>
    clear PB KB J0
    obtain ⟨k, K, o, hk, rfl, PR, JR, KR⟩ := hrel
    by_cases hlt : k < m1
    · have hks : k < l1.length := by rw [← N1.out]; omega
      obtain ⟨qa, qc, eq, z1_, z2_, hq⟩ := (I1.out.kp (k0.out.trans KR.out)).take m1 (by rw [← N1.out]; exact hm1)
      obtain ⟨g, off, hqq, hrg⟩ := hq (by omega)
      simp only [Value.slice.injEq] at eq
      obtain rfl : q1 = some ⟨g, off, none⟩ := eq.1.trans hqq
      obtain ⟨f0, f1, f2, f3, f4⟩ := a5_cells (hrg k hlt)
      have fok := I1.out.ok k hks
      obtain ⟨a_, ha_⟩ : ∃ a_, a_ = l1.getD k noA5 := ⟨_, rfl⟩
      rw [← ha_] at f0 f1 f2 f3 f4 fok
      obtain ⟨op_, m_, t_, o_, kv_, KK_⟩ := a_
      simp only at f0 f1 f2 f3 f4
      have hkl : KL w kv_ KK_ := fok.k
      have hwf : (Lit.int .i64 t_).wf = true := fok.w3
      obtain ⟨va, vc, hva, z3_⟩ := hkl.h
      subst hva
      have hst := fun (X : World) (HX : Pr W X v b r K o) (KX : Kp W X) => act_step HX KX JR.out (by omega) hN7.out op_ m_ t_ o_ va KK_.length vc KK_ (hkl.kp k0.out) hwf
      obtain ⟨vn, hvn⟩ : ∃ vn, vn = KK_.length := ⟨_, rfl⟩
      rw [← hvn] at f4 hst
      have HST := hid hst
      clear ha_ eq hqq hrg fok z1_ z2_ hq z3_ hvn hkl hst hwf
      obtain ⟨Wb, hWb⟩ : ∃ Wb, Wb = wr.alloc (.cells #[.int .i64 op_, .int .i64 m_, .int .i64 t_, .bool o_, .slice va vn vc] 30) := ⟨_, rfl⟩
      have kb : Kp wr Wb := by rw [hWb]; exact (Kp.refl wr).alloc _
      obtain ⟨b0_, b1_, b2_, b3_, b4_⟩ : Wb.cell? ⟨wr.heap.size, 0, none⟩ = some (.int .i64 op_) ∧ Wb.cell? ⟨wr.heap.size, 1, none⟩ = some (.int .i64 m_) ∧ Wb.cell? ⟨wr.heap.size, 2, none⟩ = some (.int .i64 t_) ∧ Wb.cell? ⟨wr.heap.size, 3, none⟩ = some (.bool o_) ∧ Wb.cell? ⟨wr.heap.size, 4, none⟩ = some (.slice va vn vc) := by
        refine ⟨?_, ?_, ?_, ?_, ?_⟩ <;> (rw [hWb, World.cell?_alloc_at _ _ _ _ rfl]; rfl)
      have HWb := hid hWb
      have PBb := hid (PR.out.kp kb)
      have KBb : Hid (Kp W Wb) := KR.out.trans kb
      have hA := HST.out Wb PBb.out KBb.out
      clear hWb kb PR HST
      go_upto_region 7 with fail
      rw [← HWb.out]
      clear HWb f0 f1 f2 f3 f4
      go_wp2_with fail
      refine hA.mono ?_; rintro e wz ⟨rfl, ⟨K2, o2, pz, jz⟩, kz⟩
      have PZ := hid pz
      have JZ := hid jz
      have hSm := same_step pz kz jz (by omega)
      clear hA pz jz kz b0_ b1_ b2_ b3_ b4_
      go_wp2_with fail
      refine hSm.mono ?_; rintro e wy ⟨rfl, py, ky⟩
      have PY_ := hid py
      have KY := hid ky
      clear hSm py ky PZ
      go_wp2
      go_roundw
      case rel => exact ⟨k + 1, K2, o2, by omega, by go_num, PY_, JZ, KY⟩
      case measure => simp [intOf]; omega
    · go_wp2
      go_ret
      exact ⟨rfl, k0.out.trans KR.out⟩
theorem walk (w : World) (a0 b0 : Int) (a1 : Value) (l1 : List A5) (w0 : (Lit.int .i64 a0).wf = true) (x0 : (Lit.int .i64 b0).wf = true) (w1 : Acts5 w a1 l1) :
    Calls Tryz.prog 3 #[.agg #[.int .i64 a0, .int .i64 b0], a1] w fun e w' => e = .returned (.bool true) ∧ Kp w w' := by
  exact walkN w a0 b0 (bounds_i64 w0) (bounds_i64 x0) a1 l1 w1

set_option maxRecDepth 100000 in
theorem lifted (os : Os) (started : os.Started) (H : Type) (enc : TypeId × Value → H) :
    ReturnsInHanded {} Tryz.checked os 3 .any (Rows.boardPlaysSpec.pre6 enc Tryz.prog Tryz.f3 Rows.boardPlaysRow.domain false) (Rows.boardPlaysSpec.post enc Tryz.prog Tryz.f3 false true false false) := by
  refine returnsInHanded_of_change (C := Tryz.checked) own started (by kernel_rfl) Tryz.func3
    (ChangeSpec.witness6 (enc := enc) (C := Tryz.checked) false ⟨#[], #[.agg #[.int .i64 0, .int .i64 0], .slice none 0 0], []⟩ 8 (by kernel_rfl) (by kernel_rfl) (by kernel_rfl) (by kernel_rfl)) ?_
  intro W base args ds gs before hval0 hW hcnd _
  have hval : ∀ (j : Nat) t v, Tryz.f3.params[j]? = some t → args[j]? = some v → Value.okWide Tryz.prog W .any base t v := hval0
  have hW' := hW
  have hlt := hW.lt
  obtain ⟨p, q, hA0, hV, rfl, hfz, hnd⟩ := hW
  have hA : DataW.TrodAll enc Tryz.prog W 0 (fun _ => true) true Tryz.f3.params.toList args.toList ds p := hA0
  have hAk := hA
  rw [Tryz.params3] at hA hval
  obtain ⟨v0, vs0, d0, ds0, p0, q0, hargs, rfl, rfl, h0, r0⟩ := trodAll_cons hA
  obtain ⟨v1, vs1, d1, ds1, p1, q1, rfl, rfl, rfl, h1, r1⟩ := trodAll_cons r0
  obtain ⟨rfl, rfl, rfl⟩ := trodAll_nil r1
  obtain rfl : args = #[v0, v1] := by cases args; simp_all
  obtain ⟨rfl, rfl⟩ := trodVars_none hV
  obtain ⟨a0, b0, rfl, w0, x0⟩ := open_ints2 Tryz.underlying22 Tryz.underlying3 cellsI cellsJ (hval 0 22 v0 rfl rfl) h0
  obtain ⟨l1, w1⟩ := open_as5 (hval 1 23 v1 rfl rfl) h1
  clear hA0 hval0
  simp only [List.append_nil] at hW' hAk hlt
  refine (walk W a0 b0 v1 l1 w0 x0 w1).mono fun e W' ⟨he, hg⟩ => ?_
  subst he
  exact ⟨_, rfl, post_kp (pv := []) hW' (fun _ _ _ => (trodAll_cons_mk (shut_bool Tryz.underlying4 _) trodAll_mk0)) (fun sp hsp => trodAll_stays laidOut (by rw [Tryz.params3]; exact of_decide_eq_true (by kernel_rfl)) hAk (fun x hx => Below.same hg (hlt x hx)) hsp) (fun _ _ => rfl) (by simp) hg⟩

theorem over : Rows.boardPlaysRow.holds Tryz.pinned (OpenSpec.ofChange Rows.boardPlaysSpec) :=
  OpenClaim.holds_of_wide 3 Tryz.f3 rfl rfl rfl rfl rfl rfl rfl ⟨rfl, rfl, rfl, rfl, rfl⟩ rfl rfl rfl rfl rfl (by kernel_rfl) Tryz.func3 (by kernel_rfl)
    (of_decide_eq_true (by kernel_rfl)) (by unfold Func.isWrapper; first | (rw [if_pos (by decide +kernel)]; kernel_rfl) | (rw [if_neg (by decide +kernel)]; exact ⟨rfl, rfl⟩))
    (fun os started H enc _ => lifted os started H enc)

end Go.Proofs.YtinpkfdmellleaaGreat.boardPlays
namespace Go.Proofs.YtinpkfdmellleaaGreat
theorem boardPlays_holds : Rows.BoardPlaysSaid := boardPlays.over
end Go.Proofs.YtinpkfdmellleaaGreat
