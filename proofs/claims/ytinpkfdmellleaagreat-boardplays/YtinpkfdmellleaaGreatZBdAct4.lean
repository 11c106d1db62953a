/-
  A contract of the laws' act: a crash, and Open. Conditions: that the pair lies in memory, and the act's lists.
-/
import Derived.Test.YtinpkfdmellleaaGreatZBdAct3
namespace Go.Proofs.YtinpkfdmellleaaGreat
open Go.RowKit Plain
set_option linter.unusedVariables false

set_option maxRecDepth 100000 in
set_option maxHeartbeats 8000000 in
theorem act_crash {w0 w : World} {v b r : Nat} {P R : List Nat} {B : BS} {z : Nat} {s1 s3 : Value} (h : Pb w0 w v b r P R B B s1 s3) (K : Kp w0 w) (d m n : Int) (o : Bool) (va : Option Addr) (vn vc : Nat) (KK : List (Value × List Nat)) (hkl : KL w0 (.slice va vn vc) KK) (ev : Ev (crB B (ksF KK)) z) (hep : (opnL (crB B (ksF KK))).ep < 9007199254740992) (hg : B.g + 100 < 1000000) (hd : d % 8 = 5) :
    Calls Tryz.prog 11 #[.pointer (some ⟨v, 0, none⟩), .agg #[.int .i64 d, .int .i64 m, .int .i64 n, .bool o, .slice va vn vc]] w fun e w' => e = .returned (.bool true) ∧ Pr w0 w' v b r (opnK (crB B (ksF KK))) (decide (opnE (crB B (ksF KK)) = 0)) ∧ Kp w0 w' := by
  have hms := mask7b d
  have AC := Ac.new w d m n o va vn vc
  have kW : Kp w (w.alloc (.cells #[.int .i64 d, .int .i64 m, .int .i64 n, .bool o, .slice va vn vc] 30)) := (Kp.refl w).alloc _
  obtain ⟨W, hW⟩ : ∃ W, W = w.alloc (.cells #[.int .i64 d, .int .i64 m, .int .i64 n, .bool o, .slice va vn vc] 30) := ⟨_, rfl⟩
  rw [← hW] at AC kW
  have HW := hid hW
  have P1 := hid (h.kp kW)
  have HAC := hid AC
  have HK := hid (K.trans kW)
  have HKL := hid hkl
  have HKE : Hid (∀ i, i < KK.length → KeIn w0 (KK.getD i noK).1 (KK.getD i noK).2) := hkl.k
  have nX : Hid (w.heap.size ∉ P ∧ w.heap.size ∉ R) := ⟨fun hm => by have := OL.bw.low h.hB _ hm; omega, fun hm => by have := OL.dw.low h.hD _ hm; omega⟩
  have HEv := hid ev
  have HEp := hid hep
  obtain ⟨CB, hCB⟩ : ∃ C, C = crB B (ksF KK) := ⟨_, rfl⟩
  have HCB := hid hCB
  rw [← hCB] at HEv HEp ⊢
  have hgC : Hid (CB.g + 100 < 1000000) := by show _ < _; rw [hCB]; exact hg
  obtain ⟨nk, hnk⟩ : ∃ n, n = min KK.length 32 := ⟨_, rfl⟩
  obtain ⟨kf, hkf⟩ : ∃ f, f = ksF KK := ⟨_, rfl⟩
  rw [← hkf] at HCB
  have HNK := hid hnk
  have HKF := hid hkf
  have hL1 : ∀ U, Kp W U → Calls Tryz.prog 35 #[.agg #[.int .i64 d, .int .i64 m, .int .i64 n, .bool o, .slice va vn vc]] U fun e U' => ∃ u, e = .returned u ∧ Kp W U' ∧ Ks w0 U' P u nk kf := fun U q => by
    refine (lists_any ⟨d, m, n, o, .slice va vn vc, KK⟩ U (HKL.out.kp (HK.out.trans q))).mono ?_
    rintro e U' ⟨u, he, ho, hk'⟩
    rw [HNK.out, HKF.out]
    exact ⟨u, he, q.trans hk', Ks.of HKE.out ho (fun t ht => by have := OL.bw.low P1.out.hB t ht; have := q.size; omega)⟩
  have hC1 : ∀ U u, Kp W U → Ks w0 U P u nk kf → Calls Tryz.prog 34 #[.pointer (some ⟨b, 0, none⟩), u] U fun e U' => e = .returned (.tuple #[]) ∧ Nz Bw w0 W U' b P CB := fun U u q hks => by
    rw [HCB.out]
    exact (bw_crash (P1.out.kp q).hB (HK.out.trans q) u _ _ hks (by have : B.g + 100 < 1000000 := hg; omega)).mono fun e U' ⟨he, hn⟩ => ⟨he, nzOff q hn⟩
  have hS1 : ∀ U, Kp W U → U.cell? ⟨v, 0, none⟩ = some (.pointer (some ⟨b, 0, none⟩)) ∧ U.cell? ⟨w.heap.size, 0, none⟩ = some (.int .i64 d) ∧ U.cell? ⟨w.heap.size, 1, none⟩ = some (.int .i64 m) ∧ U.cell? ⟨w.heap.size, 2, none⟩ = some (.int .i64 n) ∧ U.cell? ⟨w.heap.size, 3, none⟩ = some (.bool o) ∧ U.cell? ⟨w.heap.size, 4, none⟩ = some (.slice va vn vc) := fun U q => ⟨q.held P1.out.c0, q.held HAC.out.f0, q.held HAC.out.f1, q.held HAC.out.f2, q.held HAC.out.f3, q.held HAC.out.f4⟩
  have hS2 : ∀ U, Nz Bw w0 W U b P CB → U.cell? ⟨v, 0, none⟩ = some (.pointer (some ⟨b, 0, none⟩)) ∧ U.cell? ⟨w.heap.size, 0, none⟩ = some (.int .i64 d) ∧ U.cell? ⟨w.heap.size, 1, none⟩ = some (.int .i64 m) ∧ U.cell? ⟨w.heap.size, 2, none⟩ = some (.int .i64 n) ∧ U.cell? ⟨w.heap.size, 3, none⟩ = some (.bool o) ∧ U.cell? ⟨w.heap.size, 4, none⟩ = some (.slice va vn vc) := fun U ⟨_, _, q, _⟩ => ⟨q.held P1.out.c0 P1.out.nv, q.held HAC.out.f0 nX.out.1, q.held HAC.out.f1 nX.out.1, q.held HAC.out.f2 nX.out.1, q.held HAC.out.f3 nX.out.1, q.held HAC.out.f4 nX.out.1⟩
  have hr0 : Kp W W.drew := (Kp.refl W).drew
  have hgB := hid hg
  obtain ⟨f0, f1, f2, f3, f4⟩ := AC
  have c0 := P1.out.c0
  rw [hd] at hms
  clear hW h K kW hkl ev hep hCB hnk hkf hg
  go_enter Tryz.func11, Tryz.ntmps11
  go_upto_region 1 with fail
  rw [← HW.out]
  clear HW
  go_wp2_with fail
  go_region_held3 (fun U => U.cell? ⟨v, 0, none⟩ = some (.pointer (some ⟨b, 0, none⟩)) ∧ U.cell? ⟨w.heap.size, 0, none⟩ = some (.int .i64 d) ∧ U.cell? ⟨w.heap.size, 1, none⟩ = some (.int .i64 m) ∧ U.cell? ⟨w.heap.size, 2, none⟩ = some (.int .i64 n) ∧ U.cell? ⟨w.heap.size, 3, none⟩ = some (.bool o) ∧ U.cell? ⟨w.heap.size, 4, none⟩ = some (.slice va vn vc)) (first | exact hS1 _ (by assumption) | exact hS2 _ (by assumption)) (first
    | (go_at_call 35; refine (hL1 _ (by assumption)).mono ?_; rintro e wl ⟨ul, rfl, kl, ksl⟩)
    | (go_at_call 34; refine (hC1 _ _ (by assumption) (by assumption)).mono ?_; rintro e w1 ⟨rfl, n1⟩))
  have N1 := hid n1
  obtain ⟨P2, p2, s2, _⟩ := P1.out.one n1
  have HP2 := hid p2
  have HA2 := hid (HAC.out.sp s2 nX.out.1)
  have HK1 : Hid (Kp w0 w1) := n1.below OL.bw P1.out.hB HK.out
  have hL2 : ∀ U, Kp w1 U → Calls Tryz.prog 35 #[.agg #[.int .i64 d, .int .i64 m, .int .i64 n, .bool o, .slice va vn vc]] U fun e U' => ∃ u, e = .returned u ∧ Kp w1 U' ∧ Ks w0 U' R u nk kf := fun U q => by
    refine (lists_any ⟨d, m, n, o, .slice va vn vc, KK⟩ U (HKL.out.kp (HK1.out.trans q))).mono ?_
    rintro e U' ⟨u, he, ho, hk'⟩
    rw [HNK.out, HKF.out]
    exact ⟨u, he, q.trans hk', Ks.of HKE.out ho (fun t ht => by have := OL.dw.low HP2.out.hD t ht; have := q.size; omega)⟩
  have hC2 : ∀ U u, Kp w1 U → Ks w0 U R u nk kf → Calls Tryz.prog 42 #[.pointer (some ⟨r, 0, none⟩), u] U fun e U' => e = .returned (.tuple #[]) ∧ Nz Dw w0 w1 U' r R CB := fun U u q hks => by
    rw [HCB.out]
    exact (dw_crash (HP2.out.kp q).hD (HK1.out.trans q) u _ _ hks (by have : B.g + 100 < 1000000 := hgB.out; omega)).mono fun e U' ⟨he, hn⟩ => ⟨he, nzOff q hn⟩
  have hS1' : ∀ U, Kp w1 U → U.cell? ⟨v, 2, none⟩ = some (.pointer (some ⟨r, 0, none⟩)) ∧ U.cell? ⟨w.heap.size, 0, none⟩ = some (.int .i64 d) ∧ U.cell? ⟨w.heap.size, 1, none⟩ = some (.int .i64 m) ∧ U.cell? ⟨w.heap.size, 2, none⟩ = some (.int .i64 n) ∧ U.cell? ⟨w.heap.size, 3, none⟩ = some (.bool o) ∧ U.cell? ⟨w.heap.size, 4, none⟩ = some (.slice va vn vc) := fun U q => ⟨q.held HP2.out.c2, q.held HA2.out.f0, q.held HA2.out.f1, q.held HA2.out.f2, q.held HA2.out.f3, q.held HA2.out.f4⟩
  have hS2' : ∀ U, Nz Dw w0 w1 U r R CB → U.cell? ⟨v, 2, none⟩ = some (.pointer (some ⟨r, 0, none⟩)) ∧ U.cell? ⟨w.heap.size, 0, none⟩ = some (.int .i64 d) ∧ U.cell? ⟨w.heap.size, 1, none⟩ = some (.int .i64 m) ∧ U.cell? ⟨w.heap.size, 2, none⟩ = some (.int .i64 n) ∧ U.cell? ⟨w.heap.size, 3, none⟩ = some (.bool o) ∧ U.cell? ⟨w.heap.size, 4, none⟩ = some (.slice va vn vc) := fun U ⟨_, _, q, _⟩ => ⟨q.held HP2.out.c2 HP2.out.nw, q.held HA2.out.f0 nX.out.2, q.held HA2.out.f1 nX.out.2, q.held HA2.out.f2 nX.out.2, q.held HA2.out.f3 nX.out.2, q.held HA2.out.f4 nX.out.2⟩
  have hr1 : Kp w1 w1.drew := (Kp.refl w1).drew
  clear hL1 hC1 hS1 hS2 hr0 n1 p2 s2 kl ksl f0 f1 f2 f3 f4 c0
  have c2 := HP2.out.c2
  obtain ⟨f0, f1, f2, f3, f4⟩ := HA2.out
  go_wp2_with fail
  go_region_held3 (fun U => U.cell? ⟨v, 2, none⟩ = some (.pointer (some ⟨r, 0, none⟩)) ∧ U.cell? ⟨w.heap.size, 0, none⟩ = some (.int .i64 d) ∧ U.cell? ⟨w.heap.size, 1, none⟩ = some (.int .i64 m) ∧ U.cell? ⟨w.heap.size, 2, none⟩ = some (.int .i64 n) ∧ U.cell? ⟨w.heap.size, 3, none⟩ = some (.bool o) ∧ U.cell? ⟨w.heap.size, 4, none⟩ = some (.slice va vn vc)) (first | exact hS1' _ (by assumption) | exact hS2' _ (by assumption)) (first
    | (go_at_call 35; refine (hL2 _ (by assumption)).mono ?_; rintro e wm ⟨um, rfl, km, ksm⟩)
    | (go_at_call 42; refine (hC2 _ _ (by assumption) (by assumption)).mono ?_; rintro e w2 ⟨rfl, n2⟩))
  obtain ⟨R2, p3, _, _⟩ := HP2.out.two n2
  have HK2 : Hid (Kp w0 w2) := n2.below OL.dw HP2.out.hD HK1.out
  have hLo := lopen_g p3 HK2.out HEv.out HEp.out hgC.out
  clear hL2 hC2 hS1' hS2' hr1 n2 p3 km ksm f0 f1 f2 f3 f4 c2
  go_wp2_with fail
  refine hLo.mono ?_; rintro e w5 ⟨rfl, h1, h2⟩
  have H1 := hid h1
  have H2 := hid h2
  clear hLo h1 h2
  go_wp2
  go_ret
  exact ⟨rfl, H1.out, H2.out⟩

end Go.Proofs.YtinpkfdmellleaaGreat
