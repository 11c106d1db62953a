/-
  The laws' own same, of a pair of boards in one state, or of none. Conditions: that the pair lies in memory.
-/
import Derived.Test.YtinpkfdmellleaaGreatZBdPr
import Derived.Test.YtinpkfdmellleaaGreatZBeg
namespace Go.Proofs.YtinpkfdmellleaaGreat
open Go.RowKit Plain
set_option linter.unusedVariables false

theorem Dw.steps {w0 w : World} {r : Nat} {T : List Nat} {B : BS} (h : Dw w0 w r T B) : w.cell? ⟨r, 1, none⟩ = some (.int .i64 (B.md : Int)) := by
  obtain ⟨m, cap, X, F, rfl, h1⟩ := h
  exact h1.c1

set_option maxRecDepth 100000 in
set_option maxHeartbeats 8000000 in
theorem same_p {w0 w : World} {v x b r y : Nat} {T R : List Nat} {K : KS} {sv mv su mu : Value} (h : Pd w0 w v x b r y T R K K sv mv su mu) (hK : Kp w0 w) (ok : Kok K) : Calls Tryz.prog 10 #[.pointer (some ⟨v, 0, none⟩)] w fun e w' => e = .returned (.bool true) ∧ (∃ T', Pd w0 w' v x b r y T' R K K sv mv su mu) ∧ Kp w0 w' := by
  have hgd := h.kx.bay.gd
  have hlen : K.l.sts.length ≤ 1000 ∧ K.l.mks.length ≤ 1000 ∧ K.l.sts.length = K.l.mks.length := ⟨by rw [ok.s]; have := hgd.n2; omega, by rw [ok.m]; have := hgd.n2; omega, by rw [ok.s, ok.m]⟩
  have HLn := hid hlen
  have HP := hid h
  have HK := hid hK
  have HOk := hid ok
  have c0 := h.c0
  have c2 := h.c2
  have c3 := h.c3
  have cs := h.ky.bay.steps
  have cT : ∀ U, Kp w U → Calls Tryz.prog 25 #[.pointer (some ⟨b, 0, none⟩)] U fun e U' => e = .returned (.int .i64 (K.b.md : Int)) ∧ Kp w U' := fun U k => (bw_steps (HP.out.kp k).kx.bay).mono fun e U' ⟨he, hu⟩ => ⟨he, by rw [hu]; exact k⟩
  have hS : ∀ U, Kp w U → U.cell? ⟨v, 0, none⟩ = some (.pointer (some ⟨b, 0, none⟩)) ∧ U.cell? ⟨v, 2, none⟩ = some (.pointer (some ⟨r, 0, none⟩)) ∧ U.cell? ⟨r, 1, none⟩ = some (.int .i64 (K.b.md : Int)) := fun U k => ⟨k.held c0, k.held c2, k.held cs⟩
  have hr0 : Kp w w.drew := (Kp.refl w).drew
  have hmm : ((K.b.md : Int) == (K.b.md : Int)) = true := by simp
  obtain ⟨MD, hMD⟩ : ∃ m, m = K.b.md := ⟨_, rfl⟩
  rw [← hMD] at cs cT hS hmm
  clear h hK ok hgd hlen hMD
  go_enter Tryz.func10, Tryz.ntmps10
  go_wp2_with fail
  go_region_held3 (fun U => U.cell? ⟨v, 0, none⟩ = some (.pointer (some ⟨b, 0, none⟩)) ∧ U.cell? ⟨v, 2, none⟩ = some (.pointer (some ⟨r, 0, none⟩)) ∧ U.cell? ⟨r, 1, none⟩ = some (.int .i64 (MD : Int))) (exact hS _ (by assumption)) (first
    | (go_at_call 25; refine (cT _ (by assumption)).mono ?_; rintro e ud ⟨rfl, kd⟩))
  have P1 := hid (HP.out.kp kd)
  have K1 : Hid (Kp w0 ud) := HK.out.trans kd
  have e1 := P1.out.c1
  have e3 := P1.out.c3
  have hNx := next_anyB P1.out.kx K1.out HOk.out
  clear cT hS hr0 c0 c2 c3 cs hmm kd
  go_wp2_with fail
  refine hNx.mono ?_; rintro e w1 ⟨rfl, hx, hs⟩
  obtain ⟨T1, p1⟩ := P1.out.bay1 ⟨T, hx.bay, hs, Nw.refl _ _⟩
  have P2 : Hid (Pd w0 w1 v x b r y T1 R K K sv mv su mu) := p1
  have K2 : Hid (Kp w0 w1) := Sp.kp K1.out hs (OL.bw.new P1.out.kx.bay)
  have hRn := rnext_any P2.out.ky HOk.out
  have e3 := P2.out.c3
  clear hNx hx hs p1 e1
  go_wp2_with fail
  refine hRn.mono ?_; rintro e V2 ⟨rfl, k2⟩
  have P3 := hid (P2.out.kp k2)
  have K3 : Hid (Kp w0 V2) := K2.out.trans k2
  clear hRn k2 P1 P2 e3 HP HK K1 K2
  obtain ⟨NM, hNM⟩ : ∃ f, f = nxM K K.b.ms.length := ⟨_, rfl⟩
  obtain ⟨NT, hNT⟩ : ∃ f, f = nxT K K.b.ms.length := ⟨_, rfl⟩
  obtain ⟨NB, hNB⟩ : ∃ f, f = nxB K K.b.ms.length := ⟨_, rfl⟩
  rw [← hNM, ← hNT, ← hNB]
  have hb1 : (NM == NM) = true := by simp
  have hb2 : (NT == NT) = true := by simp
  have hb3 : (NB == NB) = true := by simp
  clear hNM hNT hNB
  obtain ⟨KB, n_, s_, ep_, sts_, mks_⟩ := K
  simp only at HLn
  have cL : ∀ U, Kp V2 U → Calls Tryz.prog 24 #[.pointer (some ⟨x, 0, none⟩)] U fun e U' => ∃ u1 u2, e = .returned (lV n_ s_ ep_ u1 u2) ∧ Nl U' u1 sts_ ∧ Nl U' u2 mks_ ∧ Kp V2 U' := fun U k => (label_any (P3.out.kp k).kx HLn.out.1 HLn.out.2.1).mono fun e U' ⟨u1, u2, he, tw, k'⟩ => ⟨u1, u2, he, tw.n1, tw.n2, k.trans k'⟩
  have cS : ∀ U u1 u2, Nl U u1 sts_ → Nl U u2 mks_ → Kp V2 U → Calls Tryz.prog 23 #[lV n_ s_ ep_ u1 u2, .agg #[.int .i64 n_, .int .i64 s_, .int .i64 ep_, su, mu]] U fun e U' => e = .returned (.bool true) ∧ Kp V2 U' := fun U u1 u2 h1 h2 k => (same_label ⟨n_, s_, ep_, sts_, mks_⟩ u1 u2 su mu U h1 h2 (P3.out.ky.n1.kept k) (P3.out.ky.n2.kept k) HLn.out.2.2).mono fun e U' ⟨he, k'⟩ => ⟨he, k.trans k'⟩
  have v1 := P3.out.ky.c1
  have v2 := P3.out.ky.c2
  have v3 := P3.out.ky.c3
  have v4 := P3.out.ky.c4
  have v5 := P3.out.ky.c5
  have q1 := P3.out.c1
  have q3 := P3.out.c3
  simp only at v1 v2 v3
  have hS : ∀ U, Kp V2 U → U.cell? ⟨v, 1, none⟩ = some (.pointer (some ⟨x, 0, none⟩)) ∧ U.cell? ⟨v, 3, none⟩ = some (.pointer (some ⟨y, 0, none⟩)) ∧ U.cell? ⟨y, 1, none⟩ = some (.int .i64 n_) ∧ U.cell? ⟨y, 2, none⟩ = some (.int .i64 s_) ∧ U.cell? ⟨y, 3, none⟩ = some (.int .i64 ep_) ∧ U.cell? ⟨y, 4, none⟩ = some su ∧ U.cell? ⟨y, 5, none⟩ = some mu := fun U k => ⟨k.held q1, k.held q3, k.held v1, k.held v2, k.held v3, k.held v4, k.held v5⟩
  have hr0 : Kp V2 V2.drew := (Kp.refl V2).drew
  clear HOk HLn
  go_wp2_with fail
  go_region_held3 (fun U => U.cell? ⟨v, 1, none⟩ = some (.pointer (some ⟨x, 0, none⟩)) ∧ U.cell? ⟨v, 3, none⟩ = some (.pointer (some ⟨y, 0, none⟩)) ∧ U.cell? ⟨y, 1, none⟩ = some (.int .i64 n_) ∧ U.cell? ⟨y, 2, none⟩ = some (.int .i64 s_) ∧ U.cell? ⟨y, 3, none⟩ = some (.int .i64 ep_) ∧ U.cell? ⟨y, 4, none⟩ = some su ∧ U.cell? ⟨y, 5, none⟩ = some mu) (exact hS _ (by assumption)) (first
    | (go_at_call 24; refine (cL _ (by assumption)).mono ?_; rintro e ub ⟨u1, u2, rfl, nl1, nl2, kb⟩)
    | (go_at_call 23; refine (cS _ u1 u2 (by assumption) (by assumption) (by assumption)).mono ?_; rintro e uc ⟨rfl, kc⟩))
  have HF : Hid (Pd w0 uc v x b r y T1 R ⟨KB, n_, s_, ep_, sts_, mks_⟩ ⟨KB, n_, s_, ep_, sts_, mks_⟩ sv mv su mu) := P3.out.kp kc
  have KF : Hid (Kp w0 uc) := K3.out.trans kc
  clear cL cS hS hr0 v1 v2 v3 v4 v5 q1 q3
  go_wp2
  go_ret
  exact ⟨rfl, ⟨T1, HF.out⟩, KF.out⟩

set_option maxRecDepth 100000 in
set_option maxHeartbeats 8000000 in
theorem same_n {w0 w : World} {v b r : Nat} {P R : List Nat} {B : BS} (h : Pb w0 w v b r P R B B (.pointer none) (.pointer none)) (hK : Kp w0 w) : Calls Tryz.prog 10 #[.pointer (some ⟨v, 0, none⟩)] w fun e w' => e = .returned (.bool true) ∧ Pb w0 w' v b r P R B B (.pointer none) (.pointer none) ∧ Kp w0 w' := by
  have HP := hid h
  have HK := hid hK
  have c0 := h.c0
  have c2 := h.c2
  have c3 := h.c3
  have cs := h.hD.steps
  have cT : ∀ U, Kp w U → Calls Tryz.prog 25 #[.pointer (some ⟨b, 0, none⟩)] U fun e U' => e = .returned (.int .i64 (B.md : Int)) ∧ Kp w U' := fun U k => (bw_steps (HP.out.kp k).hB).mono fun e U' ⟨he, hu⟩ => ⟨he, by rw [hu]; exact k⟩
  have hS : ∀ U, Kp w U → U.cell? ⟨v, 0, none⟩ = some (.pointer (some ⟨b, 0, none⟩)) ∧ U.cell? ⟨v, 2, none⟩ = some (.pointer (some ⟨r, 0, none⟩)) ∧ U.cell? ⟨r, 1, none⟩ = some (.int .i64 (B.md : Int)) := fun U k => ⟨k.held c0, k.held c2, k.held cs⟩
  have hr0 : Kp w w.drew := (Kp.refl w).drew
  have hmm : ((B.md : Int) == (B.md : Int)) = true := by simp
  obtain ⟨MD, hMD⟩ : ∃ m, m = B.md := ⟨_, rfl⟩
  rw [← hMD] at cs cT hS hmm
  clear h hK hMD
  go_enter Tryz.func10, Tryz.ntmps10
  go_wp2_with fail
  go_region_held3 (fun U => U.cell? ⟨v, 0, none⟩ = some (.pointer (some ⟨b, 0, none⟩)) ∧ U.cell? ⟨v, 2, none⟩ = some (.pointer (some ⟨r, 0, none⟩)) ∧ U.cell? ⟨r, 1, none⟩ = some (.int .i64 (MD : Int))) (exact hS _ (by assumption)) (first
    | (go_at_call 25; refine (cT _ (by assumption)).mono ?_; rintro e ud ⟨rfl, kd⟩))
  have P1 := hid (HP.out.kp kd)
  have K1 : Hid (Kp w0 ud) := HK.out.trans kd
  have e1 := P1.out.c1
  have e3 := P1.out.c3
  clear cT hS hr0 c0 c2 c3 cs hmm
  have hLn := label_nil ud
  have hfs := field_sts
  unfold lV at hLn
  go_wp2_with fail
  refine hLn.mono ?_; rintro e w1 ⟨rfl, k1⟩
  have P2 := hid (P1.out.kp k1)
  have K2 : Hid (Kp w0 w1) := K1.out.trans k1
  clear hLn k1
  go_wp2
  go_ret
  exact ⟨rfl, P2.out, K2.out⟩

end Go.Proofs.YtinpkfdmellleaaGreat
