/-
  The document's Whole (layer 16). Conditions: that the bay and the label's lists lie in memory.
-/
import Derived.Test.YtonooelffokfkaaGreatDoorZRwCol
import Derived.Test.YtonooelffokfkaaGreatDoorZRow
namespace Go.Proofs.YtonooelffokfkaaGreatDoor
open Go.RowKit Plain
set_option linter.unusedVariables false

theorem rdT_64 {w0 w : World} {y : Nat} {T : List Nat} {B : BS} (h : Dw w0 w y T B) (i k : Int) (h0 : rdE B i k = 0) : (rdT B i k).size = 64 := by
  obtain ⟨m, cap, X, F, _, h1⟩ := h
  unfold rdE at h0
  split at h0
  · rename_i hs
    have hf := (stE_ok hs).1
    obtain ⟨P, _, ⟨gs, cg, wv, _, hri, _⟩, _⟩ := h1.at hf
    unfold rdT rdS
    rw [if_pos hs, if_pos h0]
    obtain ⟨_, c2, c3⟩ := rc_ok h0
    have hlt : k.toNat < (bm B i).now.length := by rw [hri.fine.nn]; omega
    exact hri.fine.bn _ (mem_of_at _ _ hlt)
  · rename_i hs
    exact absurd h0 hs
theorem roE_at {B : BS} {n t : Int} {G : List Int} (N : Nat) : roE B n t G N = 0 → ∀ c, c < N → isG G c = false → rdE B (mM n t c) (100 + t) = 0 := by
  induction N with
  | zero => intro _ c hc; omega
  | succ N ih =>
    intro h c hc hg
    have hd : (if roE B n t G N = 0 then (if isG G N = true then 0 else rdE B (mM n t N) (100 + t)) else roE B n t G N) = 0 := h
    by_cases h1 : roE B n t G N = 0
    · rw [if_pos h1] at hd
      by_cases e : c = N
      · subst e; rw [if_neg (by rw [hg]; simp)] at hd; exact hd
      · exact ih h1 c (by omega) hg
    · rw [if_neg h1] at hd; exact absurd hd h1
theorem gn_nil (N : Nat) : gn N [] = [] := by unfold gn; simp
theorem kept_all (L : List ByteArray) : keptL L L.length [] = L := by
  unfold keptL keptI
  rw [List.filter_eq_self.2 (by simp)]
  refine list_eq (by simp) fun i hi => ?_
  have hi2 : i < L.length := by simpa using hi
  simp [List.getD_eq_getElem?_getD, hi2]
/-- nothing lost, all read. -/
theorem ld_whole {w0 w : World} {y : Nat} {R : List Nat} {B : BS} (h : Dw w0 w y R B) {L : LB} {t : Int} (hE : lsE L t = 0) (hG : ldG B L t = []) (hR : roE B L.n t [] L.n.toNat = 0) : ldE B L t = 0 ∧ ldC B L t = wlA B L.n t L.n.toNat := by
  obtain ⟨f4, f32, fd, fi, _⟩ := ldG_facts B L t hE
  have hsr : srE (L.n - 2) (ldG B L t) = 0 := (sr_ok (d := L.n - 2) (l := ldG B L t) (by omega) (by omega) fi (by rw [fd, hG]; simp)).1
  have hA : ldR B L t = wlA B L.n t L.n.toNat := by unfold ldR wlA; rw [hG]
  have hlen : (wlA B L.n t L.n.toNat).length = L.n.toNat := by unfold wlA; rw [roK_len]
  have h64 : ∀ i, i < (wlA B L.n t L.n.toNat).length → ((wlA B L.n t L.n.toNat).getD i noS).size = 64 := fun i hi => by
    rw [hlen] at hi
    unfold wlA
    rw [roK_at _ _ _ _ _ _ _ hi]
    have hg : isG [] i = false := by unfold isG hasB inL; simp
    unfold roC
    rw [if_pos ⟨hi, hg⟩]
    exact rdT_64 h _ _ (roE_at _ hR i hi hg)
  have hfx : fxE (ldR B L t) (ldG B L t) = 0 := by
    rw [hA, hG]
    have e1 : srE (((wlA B L.n t L.n.toNat).length : Int) - 2) [] = 0 := by
      rw [hlen, show ((L.n.toNat : Nat) : Int) - 2 = L.n - 2 by omega, ← hG]; exact hsr
    rw [fx_un e1]
    unfold gnL
    rw [gn_nil, kept_all]
    exact fit_ok (fun i hi => by rw [h64 i hi]; omega) (fun i hi => by rw [h64 i hi, h64 0 (by omega)])
  have hLd : ldE B L t = 0 := by rw [ld_4 hE hsr (by rw [hG]; exact hR)]; exact hfx
  refine ⟨hLd, ?_⟩
  rw [(ld_yes hLd).1]
  unfold fxL
  rw [if_pos hfx, hA, hG]
  unfold gnL
  rw [gn_nil]
  rfl

set_option maxRecDepth 100000 in
set_option maxHeartbeats 8000000 in
theorem rwhole16 {w0 w : World} {y : Nat} {R : List Nat} {B : BS} (h : Dw w0 w y R B) (K : Kp w0 w) (L : LB) (sv mv : Value) (t : Int) (h1 : Nl w sv L.sts) (h2 : Nl w mv L.mks) : Calls Tryz.prog 34 #[.pointer (some ⟨y, 0, none⟩), lV L.n L.s L.ep sv mv, .int .i64 t] w fun e w' => ∃ B', e = .returned (.bool (wlB B L t)) ∧ Sm B B' ∧ Nz Dw w0 w w' y R B' := by
  have hlow := OL.dw.low h
  obtain ⟨sa, sg, so, sc, rfl, na⟩ := h1
  obtain ⟨ma, mg, mo, mc, rfl, nb⟩ := h2
  have HN1 : Hid (Nl w (.slice sa L.sts.length sc) L.sts) := ⟨sa, sg, so, sc, rfl, na⟩
  have HN2 : Hid (Nl w (.slice ma L.mks.length mc) L.mks) := ⟨ma, mg, mo, mc, rfl, nb⟩
  obtain ⟨n1, hn1⟩ : ∃ n, n = L.sts.length := ⟨_, rfl⟩
  obtain ⟨n2, hn2⟩ : ∃ n, n = L.mks.length := ⟨_, rfl⟩
  rw [← hn1] at HN1 ⊢
  rw [← hn2] at HN2 ⊢
  have lc := Lc.new w L.n L.s L.ep (.slice sa n1 sc) (.slice ma n2 mc) 33
  have K0 : Kp w (w.alloc (.cells #[.int .i64 L.n, .int .i64 L.s, .int .i64 L.ep, .slice sa n1 sc, .slice ma n2 mc] 33)) := (Kp.refl w).alloc _
  obtain ⟨W, hW⟩ : ∃ W, W = w.alloc (.cells #[.int .i64 L.n, .int .i64 L.s, .int .i64 L.ep, .slice sa n1 sc, .slice ma n2 mc] 33) := ⟨_, rfl⟩
  rw [← hW] at lc K0
  obtain ⟨A0, hA0⟩ : ∃ A0, A0 = w.heap.size := ⟨_, rfl⟩
  rw [← hA0] at lc
  have hDW := OL.dw.sp h (K0.sp []) (fun _ _ h => by cases h)
  have hGo := rgone_any hDW L (.slice sa n1 sc) (.slice ma n2 mc) t (HN1.out.kept K0) (HN2.out.kept K0)
  unfold lV at hGo ⊢
  have HLc : Hid (∀ V, Kp W V → Lc V A0 L.n L.s L.ep (.slice sa n1 sc) (.slice ma n2 mc)) := fun V k => lc.kept k
  have HK0 := hid K0
  have HKK := hid K
  have HD := hid h
  have HW := hid hW
  have HA0 := hid hA0
  have HLow : Hid (∀ x, x ∈ R → x < w.heap.size) := hlow
  obtain ⟨l0, l1, l2, l3, l4⟩ := lc
  clear na nb hn1 hn2 hW hA0 K0 K h hDW hlow
  go_enter Tryz.func34, Tryz.ntmps34
  go_upto_region 1 with fail
  rw [← HW.out, ← HA0.out]
  go_wp2_with fail
  refine hGo.mono ?_; rintro e u1 ⟨gv, rfl, hG, k1⟩
  obtain ⟨G, eG⟩ : ∃ G, G = ldG B L t := ⟨_, rfl⟩
  rw [← eG] at hG
  have HG := hid hG
  have HEG := hid eG
  obtain ⟨ga, gc, hgv⟩ := hG.slice
  subst hgv
  obtain ⟨gl, hgl⟩ : ∃ gl, gl = G.length := ⟨_, rfl⟩
  rw [← hgl] at HG ⊢
  have Hgl := hid hgl
  have HK1 := hid k1
  clear hGo l0 l1 l2 l3 l4 hG k1 eG hgl
  by_cases hE : lsE L t = 0
  · rw [hE]
    have HKv := hid (HK0.out.trans HK1.out)
    have hgc : gc ≤ 9223372036854775807 := by
      have := HG.out.ints
      cases this with
      | empty a c h => unfold maxLen at h; omega
      | some b off c l h0 h1 h9 hc => unfold maxLen at h9; omega
    by_cases hg0 : gl = 0
    · subst hg0
      have hGn : ldG B L t = [] := by rw [← HEG.out]; exact List.length_eq_zero_iff.1 Hgl.out.symm
      have hLd := rload_any (OL.dw.sp HD.out (HKv.out.sp []) (fun _ _ h => by cases h)) (HKK.out.trans HKv.out) L (.slice sa n1 sc) (.slice ma n2 mc) t (HN1.out.kept HKv.out) (HN2.out.kept HKv.out)
      unfold lV at hLd
      obtain ⟨f4, f32, _, _, _⟩ := ldG_facts B L t hE
      obtain ⟨k, hk⟩ : ∃ k : Nat, L.n.toNat = k + 2 := ⟨L.n.toNat - 2, by omega⟩
      have hk30 : 2 ≤ k ∧ k ≤ 30 := by omega
      have HF0 : Hid (ldE B L t ≠ 0 → wlB B L t = false) := fun h0 => by
        by_cases hr : roE B L.n t [] L.n.toNat = 0
        · exact absurd (ld_whole HD.out hE hGn hr).1 h0
        · exact wl_3 hE hGn hr
      have HF1 : Hid (ldE B L t = 0 → wlB B L t = fitsB ((ldC B L t).take k) ((ldC B L t).getD k noS) ((ldC B L t).getD (k + 1) noS) ∧ (ldC B L t).length = k + 2 ∧ ∀ i, i < k + 2 → ((ldC B L t).getD i noS).size ≤ 64) := fun h0 => by
        have hr : roE B L.n t [] L.n.toNat = 0 := by
          apply Classical.byContradiction
          intro hr
          obtain ⟨_, _, fd, fi, _⟩ := ldG_facts B L t hE
          have hsr : srE (L.n - 2) (ldG B L t) = 0 := (sr_ok (d := L.n - 2) (l := ldG B L t) (by omega) (by omega) fi (by rw [fd, hGn]; simp)).1
          have h3 := ld_3 hE hsr (by rw [hGn]; exact hr)
          rw [hGn, h0] at h3
          exact hr h3.symm
        have hC := (ld_whole HD.out hE hGn hr).2
        rw [wl_4 hE hGn hr, hC]
        unfold wlF
        rw [hk]
        refine ⟨rfl, by unfold wlA; rw [roK_len], fun i hi => ?_⟩
        unfold wlA
        rw [roK_at _ _ _ _ _ _ _ hi]
        unfold roC
        split
        · exact rdT_sizeD HD.out _ _
        · show noS.size ≤ 64; decide
      obtain ⟨l0, l1, l2, l3, l4⟩ := HLc.out u1 HK1.out
      obtain ⟨E1, hE1⟩ : ∃ E, E = ldE B L t := ⟨_, rfl⟩
      obtain ⟨CC, hCC⟩ : ∃ C, C = ldC B L t := ⟨_, rfl⟩
      obtain ⟨X, hX⟩ : ∃ X, X = wlB B L t := ⟨_, rfl⟩
      rw [← hE1, ← hX] at HF0
      rw [← hE1, ← hCC, ← hX] at HF1
      rw [← hE1, ← hCC] at hLd
      have HXX := hid hX
      clear hE hGn hE1 hCC hX hk f4 f32
      go_wp2_with fail
      refine hLd.mono ?_; rintro e V3 ⟨cv, gv, B', rfl, hcv, _, sm, nz⟩
      have HNz : Hid (Nz Dw w0 w V3 y R B') := nz_from HKv.out nz
      have HSm := hid sm
      by_cases hE0 : E1 = 0
      · subst hE0
        obtain ⟨hX, hlen, h64⟩ := HF1.out rfl
        obtain ⟨a, cb, co, cp, hv2, q1, q2, q3, q4⟩ := hcv.parts
        obtain rfl := q3 (by omega)
        rw [hlen] at hv2 q1 q4
        subst hv2
        have p0 := q4 k (by omega)
        have p1 := q4 (k + 1) (by omega)
        have q2' : cp ≤ 9223372036854775807 := by unfold maxLen at q2; omega
        have hcut := hcv.cut k
        have hFF := fun w' (q : Kp V3 w') => rfits_any (.slice (some ⟨cb, co, none⟩) k cp) (CC.take k) (fun i hi => by
          rw [List.length_take] at hi
          rw [getD_take (by omega)]
          have := h64 i (by omega)
          unfold maxLen
          omega) (CC.getD k noS) (CC.getD (k + 1) noS) w' ((hcut.2.2.2 (by omega)).kept q)
        rw [← hX] at hFF
        obtain ⟨P0, eP0⟩ : ∃ P, P = CC.getD k noS := ⟨_, rfl⟩
        obtain ⟨P1, eP1⟩ : ∃ P, P = CC.getD (k + 1) noS := ⟨_, rfl⟩
        rw [← eP0, ← eP1] at hFF
        rw [← eP0] at p0
        rw [← eP1] at p1
        have kd : Kp V3 V3.drew := (Kp.refl V3).drew
        have f1 : (0 : Int) ≤ (k : Int) + 1 := by omega
        have f2 : (k : Int) + 1 < ((k + 2 : Nat) : Int) := by omega
        have f3 : ((k : Int) + 1).toNat = k + 1 := by omega
        have f6 : k + 1 < k + 2 := by omega
        have f7 : k < k + 2 := by omega
        have f9 : k ≤ cp := by omega
        have t0 : IntKind.i64.wrap (((k + 2 : Nat) : Int) - 2) = (k : Int) := by rw [IntKind.wrap_i64]; omega
        have t1 : (k : Int) < (k : Int) + 2 := by omega
        have t2 : (k : Int) + 1 < (k : Int) + 2 := by omega
        have t5 : IntKind.i64.wrap ((k : Int) + 1) = (k : Int) + 1 := by rw [IntKind.wrap_i64]; omega
        clear hLd sm nz hcv q2 q3 q4 hcut hX hlen h64 eP0 eP1 HF0 HF1 l0 l1 l2 l3 l4
        go_wp2_with fail
        go_region_held3 (fun V => V.cell? ⟨cb, co + k, none⟩ = some (.string P0) ∧ V.cell? ⟨cb, co + (k + 1), none⟩ = some (.string P1)) (first | exact ⟨kd.held p0, kd.held p1⟩ | exact ⟨p0, p1⟩ | exact ⟨k4.held (kd.held p0), k4.held (kd.held p1)⟩) (first
          | (go_at_call 73; refine (hFF _ kd).mono ?_; rintro e w4 ⟨rfl, k4⟩))
        go_wp2
        go_ret
        exact ⟨B', by rw [← HXX.out]; rfl, HSm, HNz.out.kp OL.dw (kd.trans k4)⟩
      · have HX := hid (HF0.out hE0)
        clear hLd sm nz hcv
        go_wp2
        go_ret
        exact ⟨B', by rw [← HXX.out, HX.out]; rfl, HSm, HNz⟩
    · have HX := hid (wl_2 (B := B) hE (by rw [← HEG.out]; intro e; apply hg0; rw [Hgl.out, e]; rfl))
      have hgi : (0 : Int) < (gl : Int) := by omega
      clear hE hg0
      go_wp2
      go_ret
      exact ⟨B, by rw [HX.out]; rfl, Sm.refl B, (Nz.refl HD.out).kp OL.dw HKv.out⟩
  · have HX := hid (wl_1 (B := B) hE)
    obtain ⟨E, eE⟩ : ∃ E, E = lsE L t := ⟨_, rfl⟩
    rw [← eE] at hE ⊢
    clear eE
    go_wp2
    go_ret
    exact ⟨B, by rw [HX.out]; rfl, Sm.refl B, (Nz.refl HD.out).kp OL.dw (HK0.out.trans HK1.out)⟩

end Go.Proofs.YtonooelffokfkaaGreatDoor
