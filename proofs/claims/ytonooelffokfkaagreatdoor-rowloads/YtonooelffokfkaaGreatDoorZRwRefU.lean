/-
  The document's One (layer 16). Conditions: that the bay and the label's lists lie in memory.
-/
import Derived.Test.YtonooelffokfkaaGreatDoorZRwRefT
import Derived.Test.YtonooelffokfkaaGreatDoorZRow
namespace Go.Proofs.YtonooelffokfkaaGreatDoor
open Go.RowKit Plain
set_option linter.unusedVariables false

theorem nz_from {σ : Type} {O : World → World → Nat → List Nat → σ → Prop} {w0 V V' w' : World} {z : Nat} {P : List Nat} {S : σ} (k : Kp V V') (h : Nz O w0 V' w' z P S) : Nz O w0 V w' z P S := by
  obtain ⟨P', h1, h2, h3⟩ := h
  exact ⟨P', h1, (k.sp P).trans h2, fun t ht => (h3 t ht).imp id (fun h => Nat.le_trans k.size h)⟩
set_option maxRecDepth 100000 in
set_option maxHeartbeats 8000000 in
theorem rone_any {w0 w : World} {y : Nat} {R : List Nat} {B : BS} (h : Dw w0 w y R B) (K : Kp w0 w) (L : LB) (sv mv : Value) (t c : Int) (h1 : Nl w sv L.sts) (h2 : Nl w mv L.mks) : Calls Tryz.prog 27 #[.pointer (some ⟨y, 0, none⟩), lV L.n L.s L.ep sv mv, .int .i64 t, .int .i64 c] w fun e w' => ∃ B', e = .returned (.tuple #[.string (onT B L t c), .int .i64 (onE B L t c)]) ∧ Sm B B' ∧ Nz Dw w0 w w' y R B' := by
  have hlow := OL.dw.low h
  obtain ⟨sa, sg, so, sc, rfl, na⟩ := h1
  obtain ⟨ma, mg, mo, mc, rfl, nb⟩ := h2
  have HN1 : Hid (Nl w (.slice sa L.sts.length sc) L.sts) := ⟨sa, sg, so, sc, rfl, na⟩
  have HN2 : Hid (Nl w (.slice ma L.mks.length mc) L.mks) := ⟨ma, mg, mo, mc, rfl, nb⟩
  obtain ⟨n1, hn1⟩ : ∃ n, n = L.sts.length := ⟨_, rfl⟩
  obtain ⟨n2, hn2⟩ : ∃ n, n = L.mks.length := ⟨_, rfl⟩
  rw [← hn1] at HN1 ⊢
  rw [← hn2] at HN2 ⊢
  have lc := Lc.new w L.n L.s L.ep (.slice sa n1 sc) (.slice ma n2 mc) 33
  have K0 : Kp w (w.alloc (.cells #[.int .i64 L.n, .int .i64 L.s, .int .i64 L.ep, .slice sa n1 sc, .slice ma n2 mc] 33)) := (Kp.refl w).alloc _
  obtain ⟨W, hW⟩ : ∃ W, W = w.alloc (.cells #[.int .i64 L.n, .int .i64 L.s, .int .i64 L.ep, .slice sa n1 sc, .slice ma n2 mc] 33) := ⟨_, rfl⟩
  rw [← hW] at lc K0
  obtain ⟨A0, hA0⟩ : ∃ A0, A0 = w.heap.size := ⟨_, rfl⟩
  rw [← hA0] at lc
  have hDW := OL.dw.sp h (K0.sp []) (fun _ _ h => by cases h)
  have hGo := rgone_any hDW L (.slice sa n1 sc) (.slice ma n2 mc) t (HN1.out.kept K0) (HN2.out.kept K0)
  unfold lV at hGo ⊢
  have HLc : Hid (∀ V, Kp W V → Lc V A0 L.n L.s L.ep (.slice sa n1 sc) (.slice ma n2 mc)) := fun V k => lc.kept k
  have HK0 := hid K0
  have HKK := hid K
  have HD := hid h
  have HW := hid hW
  have HA0 := hid hA0
  have HLow : Hid (∀ x, x ∈ R → x < w.heap.size) := hlow
  obtain ⟨l0, l1, l2, l3, l4⟩ := lc
  clear na nb hn1 hn2 hW hA0 K0 K h hDW hlow
  go_enter Tryz.func27, Tryz.ntmps27
  go_upto_region 1 with fail
  rw [← HW.out, ← HA0.out]
  go_wp2_with fail
  refine hGo.mono ?_; rintro e u1 ⟨gv, rfl, hG, k1⟩
  obtain ⟨G, eG⟩ : ∃ G, G = ldG B L t := ⟨_, rfl⟩
  rw [← eG] at hG
  have HG := hid hG
  have HEG := hid eG
  obtain ⟨ga, gc, hgv⟩ := hG.slice
  subst hgv
  obtain ⟨gl, hgl⟩ : ∃ gl, gl = G.length := ⟨_, rfl⟩
  rw [← hgl] at HG ⊢
  have Hgl := hid hgl
  have HK1 := hid k1
  clear hGo l0 l1 l2 l3 l4 hG k1 eG hgl
  by_cases hE : lsE L t = 0
  · obtain ⟨f4, f32, fd, fi, fl_⟩ := ldG_facts B L t hE
    obtain ⟨_, z2, htr, hlsL⟩ := ls_zero hE
    obtain ⟨_, _, g3, g4⟩ := (gg_iff _ _).1 z2
    rw [hE]
    obtain ⟨l0, l1, l2, l3, l4⟩ := HLc.out u1 HK1.out
    have hw2 : IntKind.i64.wrap (L.n - 2) = L.n - 2 := by rw [IntKind.wrap_i64]; omega
    have HE := hid hE
    have HLs := hid hlsL
    have Hz2 := hid z2
    have hgc : gc ≤ 9223372036854775807 := by
      have := HG.out.ints
      cases this with
      | empty a c h => unfold maxLen at h; omega
      | some b off c l h0 h1 h9 hc => unfold maxLen at h9; omega
    clear hlsL fd fi hE z2
    by_cases hc : 0 ≤ c ∧ c < L.n - 2
    · obtain ⟨c0, c1⟩ := hc
      obtain ⟨ci, rfl⟩ : ∃ n : Nat, c = n := ⟨c.toNat, by omega⟩
      have hHas := rhas_any (.slice ga gl gc) G (ci : Int) u1 HG.out.ints
      have hn0 : ¬ (ci : Int) < 0 := by omega
      have hn1 : ¬ L.n - 2 ≤ (ci : Int) := by omega
      go_wp2_with fail
      refine hHas.mono ?_; rintro e V ⟨rfl, rfl⟩
      clear hHas
      cases hg : G.contains (ci : Int) with
      | true =>
        have hon := on_4 (B := B) HE.out ⟨c0, c1⟩ (by rw [← HEG.out]; exact hg)
        have hLd := rload_any (OL.dw.sp HD.out ((HK0.out.trans HK1.out).sp []) (fun _ _ h => by cases h)) (HKK.out.trans (HK0.out.trans HK1.out)) L (.slice sa n1 sc) (.slice ma n2 mc) t (HN1.out.kept (HK0.out.trans HK1.out)) (HN2.out.kept (HK0.out.trans HK1.out))
        unfold lV at hLd
        have HLen := hid (@ldC_len B L t HE.out)
        have HC0 : Hid (ldE B L t ≠ 0 → ldC B L t = []) := fun h => (ld_no h).1
        have HON := hid hon
        obtain ⟨E1, hE1⟩ : ∃ E, E = ldE B L t := ⟨_, rfl⟩
        obtain ⟨CC, hCC⟩ : ∃ C, C = ldC B L t := ⟨_, rfl⟩
        rw [← hE1, ← hCC] at HON HLen HC0
        rw [← hE1, ← hCC] at hLd
        have HKv := hid (HK0.out.trans HK1.out)
        clear hon hg hE1 hCC
        go_wp2_with fail
        refine hLd.mono ?_; rintro e V3 ⟨cv, gv, B', rfl, hcv, _, sm, nz⟩
        have HNz : Hid (Nz Dw w0 w V3 y R B') := nz_from HKv.out nz
        have HSm := hid sm
        by_cases hE0 : E1 = 0
        · subst hE0
          obtain ⟨pa, pb, po, pc, pe, p1, p2, p3, p5⟩ := hcv.parts
          have hl := HLen.out rfl
          have hcl : ci < CC.length := by rw [hl]; omega
          subst pe
          obtain rfl := p3 (by omega)
          have cC := p5 ci hcl
          have p2' : pc ≤ 9223372036854775807 := by unfold maxLen at p2; omega
          obtain ⟨q, hq⟩ : ∃ q, q = CC.length := ⟨_, rfl⟩
          rw [← hq] at hcl p1 ⊢
          obtain ⟨X, hX⟩ : ∃ X, X = CC.getD ci noS := ⟨_, rfl⟩
          rw [← hX] at cC
          have HX := hid hX
          clear hLd sm nz hcv p2 p3 p5 hl hq hX
          go_wp2
          go_ret2
          refine ⟨B', ?_, HSm, HNz⟩
          rw [HON.out.1, HON.out.2.1, Int.toNat_natCast, ← HX.out]
          rfl
        · clear hLd sm nz hcv
          go_wp2
          go_ret2
          refine ⟨B', ?_, HSm, HNz⟩
          rw [HON.out.1, HON.out.2.1, HC0.out hE0]
          rfl
      | false =>
        have hon := on_3 (B := B) HE.out ⟨c0, c1⟩ (by rw [← HEG.out]; exact hg)
        have hm := mem_ok (n := L.n) (s := L.s) (t := t) (c := (ci : Int)) Hz2.out htr ⟨by omega, by omega⟩
        have hMe := membersN_any L (.slice sa n1 sc) (.slice ma n2 mc) t V (HN1.out.kept (HK0.out.trans HK1.out)) (HN2.out.kept (HK0.out.trans HK1.out))
        rw [HE.out, HLs.out] at hMe
        unfold lV at hMe
        unfold reE reT at hon
        rw [hm, if_pos rfl, if_pos rfl] at hon
        have HON := hid hon
        obtain ⟨N, hN⟩ : ∃ N : Nat, L.n = N := ⟨L.n.toNat, by omega⟩
        have hNn : (rowL L.n t).length = N := by rw [rowL_len, hN]; omega
        have hadd : IntKind.i64.wrap (100 + t) = 100 + t := by rw [IntKind.wrap_i64]; omega
        have HKv := hid (HK0.out.trans HK1.out)
        have hcn : ci < N := by omega
        have hN4 : 4 ≤ N := by omega
        have HN := hid hN
        clear hon hg hm hN
        go_wp2_with fail
        refine hMe.mono ?_; rintro e u2 ⟨mw, rfl, iM, nM, k2⟩
        obtain ⟨xa, xg, xc, hmw, x1, x2, x3, x4⟩ := iM
        rw [hNn] at hmw x1 x3 x4
        subst hmw
        obtain rfl := x3 (by omega)
        have cM := x4 ci hcn
        rw [rowL_at _ _ _ (by rw [HN.out]; omega)] at cM
        obtain ⟨mk, hmk⟩ : ∃ mk, mk = mM L.n t ci := ⟨_, rfl⟩
        have hRd := dw_read (OL.dw.sp HD.out ((HKv.out.trans k2).sp []) (fun _ _ h => by cases h)) (HKK.out.trans (HKv.out.trans k2)) mk (100 + t)
        rw [← hmk] at cM HON
        have HK2 := hid (HKv.out.trans k2)
        clear hMe x3 x4 nM k2 hmk hNn
        go_wp2_with fail
        refine hRd.mono ?_; rintro e V3 ⟨rfl, nz⟩
        have HNz : Hid (Nz Dw w0 w V3 y R (rdB B mk (100 + t))) := nz_from HK2.out nz
        clear hRd nz
        go_wp2
        go_ret2
        refine ⟨_, ?_, sm_read B mk (100 + t), HNz⟩
        rw [HON.out.1, HON.out.2.1]
        rfl
    · have HF := hid (on_2 (B := B) HE.out hc)
      clear fl_
      by_cases hc0 : c < 0
      · clear hc
        go_wp2
        go_ret2
        exact ⟨B, by rw [HF.out.1, HF.out.2.1]; rfl, Sm.refl B, (Nz.refl HD.out).kp OL.dw (HK0.out.trans HK1.out)⟩
      · have hc1 : L.n - 2 ≤ c := by omega
        have hc2 : 0 ≤ c := by omega
        clear hc hc0
        go_wp2
        go_ret2
        exact ⟨B, by rw [HF.out.1, HF.out.2.1]; rfl, Sm.refl B, (Nz.refl HD.out).kp OL.dw (HK0.out.trans HK1.out)⟩
  · have HF := hid (on_1 (B := B) (c := c) hE)
    obtain ⟨E, eE⟩ : ∃ E, E = lsE L t := ⟨_, rfl⟩
    rw [← eE] at hE HF ⊢
    clear eE
    go_wp2
    go_ret2
    exact ⟨B, by rw [HF.out.1, HF.out.2.1]; rfl, Sm.refl B, (Nz.refl HD.out).kp OL.dw (HK0.out.trans HK1.out)⟩

end Go.Proofs.YtonooelffokfkaaGreatDoor
