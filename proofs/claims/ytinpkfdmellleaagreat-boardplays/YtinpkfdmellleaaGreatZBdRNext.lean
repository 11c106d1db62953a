/-
  A contract of the document's Next. Conditions: that its board lies in memory and its label has as many members as its bay.
-/
import Derived.Test.YtinpkfdmellleaaGreatZBd
import Derived.Test.YtinpkfdmellleaaGreatZRef
import Derived.Test.YtinpkfdmellleaaGreatZBdSL
namespace Go.Proofs.YtinpkfdmellleaaGreat
open Go.RowKit Plain
set_option linter.unusedVariables false

/-- where the document's search stands. -/
def bsM (K : KS) (k : Nat) : Int := match nxF K k with | none => -1 | some j => (j : Int)
theorem nxF_lt {K : KS} : ∀ {k j : Nat}, nxF K k = some j → j < k
  | 0, j, h => by cases h
  | k + 1, j, h => by
    rw [nxF] at h
    split at h
    · cases hh : nxF K k with
      | none => rw [hh] at h; injection h with h; omega
      | some i =>
        have ih := nxF_lt hh
        rw [hh] at h
        dsimp only at h
        split at h
        · injection h with h; omega
        · injection h with h; omega
    · have := nxF_lt h; omega
theorem bs_first {K : KS} {k : Nat} (h : K.l.sts.getD k 0 = 2 ∧ ddB K.b k = false) (hb : bsM K k = -1) : bsM K (k + 1) = (k : Int) := by
  cases hh : nxF K k with
  | none => unfold bsM; rw [nxF, if_pos h, hh]
  | some j => unfold bsM at hb; rw [hh] at hb; dsimp only at hb; omega
theorem bs_less {K : KS} {k j : Nat} (h : K.l.sts.getD k 0 = 2 ∧ ddB K.b k = false) (hb : bsM K k = (j : Int)) (hl : K.l.mks.getD k 0 < K.l.mks.getD j 0) : bsM K (k + 1) = (k : Int) := by
  cases hh : nxF K k with
  | none => unfold bsM at hb; rw [hh] at hb; dsimp only at hb; omega
  | some i =>
    unfold bsM at hb; rw [hh] at hb; dsimp only at hb
    have : i = j := by omega
    subst this
    unfold bsM; rw [nxF, if_pos h, hh]
    dsimp only
    rw [if_pos hl]
theorem bs_more {K : KS} {k j : Nat} (hb : bsM K k = (j : Int)) (hl : ¬ K.l.mks.getD k 0 < K.l.mks.getD j 0) : bsM K (k + 1) = (j : Int) := by
  cases hh : nxF K k with
  | none => unfold bsM at hb; rw [hh] at hb; dsimp only at hb; omega
  | some i =>
    unfold bsM at hb; rw [hh] at hb; dsimp only at hb
    have : i = j := by omega
    subst this
    have e : nxF K (k + 1) = some i := by
      rw [nxF]
      by_cases h : K.l.sts.getD k 0 = 2 ∧ ddB K.b k = false
      · rw [if_pos h, hh]; dsimp only; rw [if_neg hl]
      · rw [if_neg h, hh]
    unfold bsM; rw [e]
theorem bs_skip {K : KS} {k : Nat} (h : ¬ (K.l.sts.getD k 0 = 2 ∧ ddB K.b k = false)) : bsM K (k + 1) = bsM K k := by
  unfold bsM; rw [nx_skip h]
theorem bs_or (K : KS) (k : Nat) : bsM K k = -1 ∨ ∃ j : Nat, bsM K k = (j : Int) ∧ j < k := by
  unfold bsM
  cases hh : nxF K k with
  | none => exact .inl rfl
  | some j => exact .inr ⟨j, rfl, nxF_lt hh⟩
theorem bs_none {K : KS} {k : Nat} (h : bsM K k = -1) : nxM K k = 0 ∧ nxT K k = 0 ∧ nxB K k = false := by
  unfold bsM at h
  cases hh : nxF K k with
  | none => unfold nxM nxT nxB; rw [hh]; exact ⟨rfl, rfl, rfl⟩
  | some j => rw [hh] at h; dsimp only at h; omega
theorem bs_some {K : KS} {k j : Nat} (h : bsM K k = (j : Int)) : nxM K k = (j : Int) ∧ nxT K k = K.l.mks.getD j 0 ∧ nxB K k = true := by
  unfold bsM at h
  cases hh : nxF K k with
  | none => rw [hh] at h; dsimp only at h; omega
  | some i =>
    rw [hh] at h; dsimp only at h
    have : i = j := by omega
    subst this
    unfold nxM nxT nxB; rw [hh]; exact ⟨rfl, rfl, rfl⟩

set_option maxRecDepth 100000 in
set_option maxHeartbeats 4000000 in
theorem rnext_any {w0 w : World} {y r : Nat} {T : List Nat} {K : KS} {su mu : Value} (h : YX w0 w y r T K su mu) (ok : Kok K) : Calls Tryz.prog 40 #[.pointer (some ⟨y, 0, none⟩)] w fun e w' => e = .returned (.tuple #[.int .i64 (nxM K K.b.ms.length), .int .i64 (nxT K K.b.ms.length), .bool (nxB K K.b.ms.length)]) ∧ Kp w w' := by
  have hgd := h.bay.gd
  obtain ⟨m_, cap, X, F, hT, hrx⟩ := h.bay
  obtain ⟨B, L⟩ := K
  obtain ⟨hn, hs1, hs2, he0, he1, hg⟩ := ok
  dsimp only at hn hs1 hs2 he0 he1 hg hgd hrx ⊢
  have hb1 := hgd.n1
  have hb2 := hgd.n2
  have HRX := hid hrx
  obtain ⟨g1, o1, c1, hsv, r1, r2, r3⟩ := h.n1.at (by dsimp only; omega)
  obtain ⟨g2, o2, c2, hmv, r4, r5, r6⟩ := h.n2.at (by dsimp only; omega)
  dsimp only at hsv hmv r1 r3 r4 r6
  rw [hs1] at hsv r1 r3
  rw [hs2] at hmv r4 r6
  have x0 := h.c0
  have x4 := h.c4
  have x5 := h.c5
  rw [hsv] at x4
  rw [hmv] at x5
  have y0 := hrx.c0
  have k1 := hrx.k1
  have k2 := hrx.k2
  obtain ⟨N, hN⟩ : ∃ N, N = B.ms.length := ⟨_, rfl⟩
  rw [← hN] at hn r1 r3 r4 r6 x4 x5 y0 k1 hb1 hb2 ⊢
  have HN := hid hN
  have HR3 : Hid (∀ j, j < N → w.cell? ⟨g1, o1 + j, none⟩ = some (.int .i64 (L.sts.getD j 0))) := r3
  have HR6 : Hid (∀ j, j < N → w.cell? ⟨g2, o2 + j, none⟩ = some (.int .i64 (L.mks.getD j 0))) := r6
  have HAR : Hid (∀ j, j < N → w.cell? ⟨m_, j, none⟩ = some (.pointer (some ⟨X.getD j 0, 0, none⟩)) ∧ w.cell? ⟨X.getD j 0, 2, none⟩ = some (.bool (ddB B j))) := fun j hj => ⟨hrx.ar j (by omega), rx_dead hrx j (by omega)⟩
  have HW : Hid (Kp w w) := Kp.refl w
  clear r3 r6 hN hgd h hrx hsv hmv HRX hs1 hs2 he0 he1 hg hn
  obtain ⟨BM, hBM⟩ : ∃ f, f = bsM ⟨B, L⟩ := ⟨_, rfl⟩
  have Hm := hid hBM
  have H0 : Hid (BM 0 = -1) := by rw [hBM]; rfl
  have HO : Hid (∀ k, BM k = -1 ∨ ∃ j : Nat, BM k = (j : Int) ∧ j < k) := by rw [hBM]; exact bs_or _
  clear hBM
  have HX0 := hid (And.intro x0 (And.intro x4 (And.intro x5 y0)))
  go_enter Tryz.func40, Tryz.ntmps40
  go_wp2_with fail
  go_loopw [5, 6] (fun a1 j wr => ∃ k : Nat, k ≤ N ∧ j = .int .i64 k ∧ a1 = .int .i64 (BM k) ∧ Hid (Kp w wr)) (fun _ j _ => N - (intOf j).toNat)
  case atStart => exact ⟨0, by omega, by go_num, by rw [H0.out], HW⟩
  case round =>
    clear H0
    clear x0 x4 x5 y0
    obtain ⟨k, hk, rfl, rfl, KR⟩ := hrel
    have x0 := KR.out.held HX0.out.1
    have x4 := KR.out.held HX0.out.2.1
    have x5 := KR.out.held HX0.out.2.2.1
    have y0 := KR.out.held HX0.out.2.2.2
    by_cases hlt : k < N
    · have st := KR.out.held (HR3.out k hlt)
      have mt := KR.out.held (HR6.out k hlt)
      have ar := KR.out.held (HAR.out k hlt).1
      have ad := KR.out.held (HAR.out k hlt).2
      obtain ⟨S1, hS1⟩ : ∃ S, S = L.sts.getD k 0 := ⟨_, rfl⟩
      obtain ⟨S2, hS2⟩ : ∃ S, S = L.mks.getD k 0 := ⟨_, rfl⟩
      obtain ⟨dd, hdd⟩ : ∃ d, d = ddB B k := ⟨_, rfl⟩
      obtain ⟨xk, hxk⟩ : ∃ x, x = X.getD k 0 := ⟨_, rfl⟩
      rw [← hS1] at st
      rw [← hS2] at mt
      rw [← hdd] at ad
      rw [← hxk] at ar ad
      have HS1 := hid hS1
      have HS2 := hid hS2
      have Hdd := hid hdd
      clear hS1 hS2 hdd hxk
      by_cases h1 : S1 = 2
      · subst h1
        cases dd with
        | true =>
          have es : Hid (BM (k + 1) = BM k) := by
            show _ = _
            rw [Hm.out]
            exact bs_skip (K := ⟨B, L⟩) (k := k) (fun h => by have h2 := h.2; dsimp only at h2; rw [← Hdd.out] at h2; cases h2)
          go_wp2
          go_roundw
          case rel => exact ⟨k + 1, by omega, by go_num, by rw [es.out], KR⟩
          case measure => simp [intOf]; omega
        | false =>
          have hyes : (⟨B, L⟩ : KS).l.sts.getD k 0 = 2 ∧ ddB (⟨B, L⟩ : KS).b k = false := ⟨HS1.out.symm, Hdd.out.symm⟩
          rcases HO.out k with e | ⟨j, e, hj⟩
          · have es : Hid (BM (k + 1) = (k : Int)) := by
              show _ = _
              rw [Hm.out] at e ⊢
              exact bs_first hyes e
            rw [e]
            clear e hyes
            go_wp2_with fail
            go_quiet (fail)
            go_wp2
            go_roundw
            case rel => exact ⟨k + 1, by omega, by go_num, by rw [es.out], KR.out.drewN _⟩
            case measure => simp [intOf]; omega
          · have mj := KR.out.held (HR6.out j (by omega))
            obtain ⟨S3, hS3⟩ : ∃ S, S = L.mks.getD j 0 := ⟨_, rfl⟩
            rw [← hS3] at mj
            have HS3 := hid hS3
            clear hS3
            have hjN : j < N := by omega
            have hj0 : ¬ ((j : Int) < 0) := by omega
            by_cases hl : S2 < S3
            · have es : Hid (BM (k + 1) = (k : Int)) := by
                show _ = _
                rw [Hm.out] at e ⊢
                exact bs_less hyes e (by dsimp only; rw [← HS2.out, ← HS3.out]; exact hl)
              rw [e]
              clear e hyes
              go_wp2_with fail
              go_quiet (fail)
              go_wp2
              go_roundw
              case rel => exact ⟨k + 1, by omega, by go_num, by rw [es.out], KR.out.drewN _⟩
              case measure => simp [intOf]; omega
            · have es : Hid (BM (k + 1) = (j : Int)) := by
                show _ = _
                rw [Hm.out] at e ⊢
                exact bs_more e (by dsimp only; rw [← HS2.out, ← HS3.out]; exact hl)
              rw [e]
              clear e hyes
              go_wp2_with fail
              go_quiet (fail)
              go_wp2
              go_roundw
              case rel => exact ⟨k + 1, by omega, by go_num, by rw [es.out], KR.out.drewN _⟩
              case measure => simp [intOf]; omega
      · have es : Hid (BM (k + 1) = BM k) := by
          show _ = _
          rw [Hm.out]
          exact bs_skip (K := ⟨B, L⟩) (k := k) (fun h => h1 (HS1.out.trans h.1))
        have b1 : (S1 == 2) = false := by simpa using h1
        go_wp2
        go_roundw
        case rel => exact ⟨k + 1, by omega, by go_num, by rw [es.out], KR⟩
        case measure => simp [intOf]; omega
    · have ek : k = N := by omega
      subst ek
      rcases HO.out k with e | ⟨j, e, hj⟩
      · have hz := bs_none (K := ⟨B, L⟩) (k := k) (by rw [← Hm.out]; exact e)
        have HZ := hid hz
        rw [e]
        clear e hz
        go_wp2
        go_ret3
        exact ⟨by simp only [HZ.out.1, HZ.out.2.1, HZ.out.2.2]; rfl, KR.out⟩
      · have hz := bs_some (K := ⟨B, L⟩) (k := k) (j := j) (by rw [← Hm.out]; exact e)
        have mj := KR.out.held (HR6.out j (by omega))
        obtain ⟨S3, hS3⟩ : ∃ S, S = L.mks.getD j 0 := ⟨_, rfl⟩
        rw [← hS3] at mj
        dsimp only at hz
        rw [← hS3] at hz
        have HZ := hid hz
        rw [e]
        clear e hz hS3
        have hj0 : ¬ ((j : Int) < 0) := by omega
        have hjN : j < k := hj
        go_wp2_with fail
        go_quiet (fail)
        go_wp2
        go_ret3
        exact ⟨by simp only [HZ.out.1, HZ.out.2.1, HZ.out.2.2]; rfl, KR.out.drewN _⟩

end Go.Proofs.YtinpkfdmellleaaGreat
