/-
  The document's Writes. Conditions: that the columns and the label's lists lie in memory.
-/
import Derived.Test.YtonooelffokfkaaGreatDoorZRwWr
import Derived.Test.YtonooelffokfkaaGreatDoorZRwRefL
namespace Go.Proofs.YtonooelffokfkaaGreatDoor
open Go.RowKit Plain Go.Maps Go.WideMaps
set_option linter.unusedVariables false

theorem step_w3 {ops : Array Oper} {o : Oper} {a : Act} {W : World} {K : Act → World → Prop} {Q : Exit → Act → World → Prop} {E : Prop} (hgd : o.guard = none) (s x : Operand)
    (ho : o.op = .call { callee := .builtin .append, args := #[s, x], argTypes := #[96, 96] })
    (base : Nat) (v : Value) (n : Nat) (xs : List Value) (hs : a.eval s = v) (hown : W.ownsRow base 100 3 v n xs) (k : Nat) (p q : Int) (r : ByteArray) (hx : a.eval x = .slice (some ⟨k, 0, none⟩) 1 1)
    (h0 : W.cell? ⟨k, 0, none⟩ = some (.int .i64 p)) (h1 : W.cell? ⟨k, 1, none⟩ = some (.int .i64 q)) (h2 : W.cell? ⟨k, 2, none⟩ = some (.string r)) (hn : n ≤ 1000) (hbase : base ≤ W.heap.size)
    (cont : ∀ v' w', w'.ownsRow base 100 3 v' (n + 1) (xs ++ [.int .i64 p, .int .i64 q, .string r]) → W.grownBy w' v.ownBlock → K (a.put o.dst v') w') :
    if Region.wanted o (yielded ops a.tmps) = true then Oper.wp Tryz.prog o a W K Q else E := by
  have hw : Region.wanted o (yielded ops a.tmps) = true := by simp [Region.wanted, hgd]
  rw [if_pos hw]
  obtain ⟨i0, hi, hz0, hz1, hz2⟩ := info_parts info_dw
  refine wp_append_own W s x 96 ho base 100 i0 (.agg #[.int .i64 0, .int .i64 0, .string ByteArray.empty]) 3 32 Tryz.underlying96 hi hz0 hz1 hz2 rfl (by decide) v n xs hs hown ⟨k, 0, none⟩ 1 1 [.int .i64 p, .int .i64 q, .string r] hx rfl ?_ ?_ ?_ ?_ hbase fun v' w' a1 a2 _ => cont v' w' a1 a2
  · intro j u hj
    match j, hj with
    | 0, hj => simp at hj; subst hj; simpa [Addr.add] using h0
    | 1, hj => simp at hj; subst hj; simpa [Addr.add] using h1
    | 2, hj => simp at hj; subst hj; simpa [Addr.add] using h2
  · intro u hu; simp at hu; rcases hu with rfl | rfl | rfl <;> rfl
  · unfold maxLen; omega
  · omega

set_option maxRecDepth 100000 in
set_option maxHeartbeats 8000000 in
theorem rwrites_any (L : LB) (sv mv : Value) (t : Int) (cv : Value) (cs : List CB) {w : World} (h1 : Nl w sv L.sts) (h2 : Nl w mv L.mks) (hC : Ci w cv cs) (hc : cs.length ≤ 1000) : Calls Tryz.prog 36 #[lV L.n L.s L.ep sv mv, .int .i64 t, cv] w fun e w' => ∃ v, e = .returned (.tuple #[v, .int .i64 (wtE L t cs)]) ∧ Wi w' v t (wtL L t cs) ∧ Kp w w' := by
  obtain ⟨ca, cg, cp, rfl, p1, p2, p3, p4⟩ := hC.out
  obtain ⟨kl, hkl⟩ : ∃ n, n = cs.length := ⟨_, rfl⟩
  rw [← hkl] at p1 p3 p4 hc ⊢
  have HCs : Hid (∀ j, j < kl → w.cell? ⟨cg, j * 2, none⟩ = some (.int .i64 (cs.getD j noC).1) ∧ w.cell? ⟨cg, j * 2 + 1, none⟩ = some (.string (cs.getD j noC).2)) := p4
  have HCa : Hid (0 < kl → ca = some ⟨cg, 0, none⟩) := p3
  have Hkl := hid hkl
  obtain ⟨sa, sg, so, sc, rfl, na⟩ := h1
  obtain ⟨ma, mg, mo, mc, rfl, nb⟩ := h2
  have HN1 : Hid (Nl w (.slice sa L.sts.length sc) L.sts) := ⟨sa, sg, so, sc, rfl, na⟩
  have HN2 : Hid (Nl w (.slice ma L.mks.length mc) L.mks) := ⟨ma, mg, mo, mc, rfl, nb⟩
  obtain ⟨n1, hn1⟩ : ∃ n, n = L.sts.length := ⟨_, rfl⟩
  obtain ⟨n2, hn2⟩ : ∃ n, n = L.mks.length := ⟨_, rfl⟩
  rw [← hn1] at HN1 ⊢
  rw [← hn2] at HN2 ⊢
  have lc := Lc.new w L.n L.s L.ep (.slice sa n1 sc) (.slice ma n2 mc) 33
  have K0 : Kp w (w.alloc (.cells #[.int .i64 L.n, .int .i64 L.s, .int .i64 L.ep, .slice sa n1 sc, .slice ma n2 mc] 33)) := (Kp.refl w).alloc _
  obtain ⟨W, hW⟩ : ∃ W, W = w.alloc (.cells #[.int .i64 L.n, .int .i64 L.s, .int .i64 L.ep, .slice sa n1 sc, .slice ma n2 mc] 33) := ⟨_, rfl⟩
  rw [← hW] at lc K0
  obtain ⟨A0, hA0⟩ : ∃ A0, A0 = w.heap.size := ⟨_, rfl⟩
  rw [← hA0] at lc
  have hLi := members_any L (.slice sa n1 sc) (.slice ma n2 mc) t W (HN1.out.kept K0) (HN2.out.kept K0)
  have cWh := fun m V (k : Kp w V) => rwhole_any L (.slice sa n1 sc) (.slice ma n2 mc) m t V (HN1.out.kept k) (HN2.out.kept k)
  unfold lV at hLi cWh ⊢
  have HcW := hid cWh
  have HLc : Hid (∀ V, Kp W V → Lc V A0 L.n L.s L.ep (.slice sa n1 sc) (.slice ma n2 mc)) := fun V k => lc.kept k
  have HK0 := hid K0
  have HW := hid hW
  have HA0 := hid hA0
  obtain ⟨l0, l1, l2, l3, l4⟩ := lc
  clear na nb hn1 hn2 hW hA0 K0 cWh hC p3 p4 hkl
  go_enter Tryz.func36, Tryz.ntmps36
  go_upto_region 1 with fail
  rw [← HW.out, ← HA0.out]
  go_wp2_with fail
  refine hLi.mono ?_; rintro e u1 ⟨mw, rfl, iM, k1⟩
  have HK1 := hid (HK0.out.trans k1)
  have HLk : Hid (∀ V, Kp u1 V → Lc V A0 L.n L.s L.ep (.slice sa n1 sc) (.slice ma n2 mc)) := fun V k => HLc.out V (k1.trans k)
  clear hLi l0 l1 l2 l3 l4 k1 HLc HK0 HW HA0
  by_cases hE : lsE L t = 0
  · rw [hE]
    obtain ⟨_, z2, htr, hlsL⟩ := ls_zero hE
    obtain ⟨y1, y2, y3, y4⟩ := (gg_iff _ _).1 z2
    obtain ⟨N, hN⟩ : ∃ N : Nat, L.n = N := ⟨L.n.toNat, by omega⟩
    have hN32 : 4 ≤ N ∧ N ≤ 32 := by omega
    rw [hlsL] at iM
    have hNn : (rowL L.n t).length = N := by rw [rowL_len, hN]; omega
    obtain ⟨xa, xg, xc, hmw, x1, x2, x3, x4⟩ := iM
    rw [hNn] at hmw x1 x3 x4
    subst hmw
    obtain rfl := x3 (by omega)
    have HMx : Hid (∀ j, j < N → u1.cell? ⟨xg, j, none⟩ = some (.int .i64 (mM L.n t j))) := fun j hj => by rw [x4 j hj, rowL_at _ _ _ (by rw [hN]; omega)]
    have HE := hid hE
    have HN := hid hN
    clear hE z2 htr hlsL y1 y2 y3 y4 x3 x4 hNn hN
    go_wp2_with fail
    go_loopw [10, 11] (fun v i wr => ∃ k : Nat, k ≤ kl ∧ i = .int .i64 k ∧ Hid (wr.ownsRow u1.heap.size 100 3 v (wcL L t (cs.take k)).length (wvs t (wcL L t (cs.take k)))) ∧ Hid (wcE L.n (cs.take k) = 0) ∧ Hid (Kp u1 wr)) (fun _ i _ => kl - (intOf i).toNat)
    case atStart => exact ⟨0, by omega, by go_num, World.ownsRow_nil _ _ _ _, rfl, Kp.refl u1⟩
    case round =>
      obtain ⟨k, hk, rfl, HO, HG, HKr⟩ := hrel
      by_cases hlt : k < kl
      · obtain rfl := HCa.out (by omega)
        obtain ⟨cX, cS⟩ := HCs.out k hlt
        replace cX := (HK1.out.trans HKr.out).held cX
        replace cS := (HK1.out.trans HKr.out).held cS
        have HL : Hid (k < cs.length) := by show k < cs.length; rw [← Hkl.out]; exact hlt
        obtain ⟨x, hx⟩ : ∃ x, x = (cs.getD k noC).1 := ⟨_, rfl⟩
        obtain ⟨s, hs⟩ : ∃ s, s = (cs.getD k noC).2 := ⟨_, rfl⟩
        have HA : Hid (cs.getD k noC = (x, s)) := by show _ = _; rw [hx, hs]
        rw [← hx] at cX
        rw [← hs] at cS
        clear hx hs
        by_cases hr : 0 ≤ x ∧ x < (N : Int)
        · obtain ⟨X, rfl⟩ : ∃ X : Nat, x = X := ⟨x.toNat, by omega⟩
          have hXN : X < N := by omega
          have hnx : ¬ (X : Int) < 0 := by omega
          have hnx2 : ¬ (N : Int) ≤ (X : Int) := by omega
          have cM := HKr.out.held (HMx.out X hXN)
          have Hr := hid hr
          clear hr
          by_cases h64 : s.size = 64
          · have hE1 : wcE L.n [cs.getD k noC] = 0 := by rw [HA.out, wc_one1, HN.out, if_pos Hr.out, if_pos h64]
            have HG1 : Hid (wcE L.n (cs.take (k + 1)) = 0) := wc_go HL.out HG.out hE1
            have h64i : (s.size : Int) = 64 := by omega
            have hcl : (wcL L t (cs.take k)).length ≤ 1000 := by
              have a := wcL_len L t (cs.take k)
              have b := List.length_take_le k cs
              omega
            have hst := fun p => HcW.out (mM L.n t X) (kpw wr p) ((HK1.out.trans HKr.out).trans (kpw_kp wr p))
            obtain ⟨m, hm_⟩ : ∃ m, m = mM L.n t X := ⟨_, rfl⟩
            rw [← hm_] at cM hst
            obtain ⟨wb, hwb⟩ : ∃ x, x = wh L m t := ⟨_, rfl⟩
            rw [← hwb] at hst
            have hC1 : wcL L t (cs.take (k + 1)) = wcL L t (cs.take k) ++ (if wb = true then [(m, s)] else []) := by
              rw [take_succC HL.out, wcL_app, HA.out]
              show _ ++ (if wh L (mM L.n t (X : Int)) t = true then [(mM L.n t (X : Int), s)] else []) = _
              rw [← hm_, ← hwb]
            have HC1 := hid hC1
            have lcr := HLk.out wr HKr.out
            have l0 := kpw_cell lcr.c0
            have l1 := kpw_cell lcr.c1
            have l2 := kpw_cell lcr.c2
            have l3 := kpw_cell lcr.c3
            have l4 := kpw_cell lcr.c4
            have l5 := kpw_cell cM
            clear hE1 hC1 hm_ hwb HA lcr
            go_upto_region 13 with fail
            refine wp_region_kp (by kernel_rfl) (by kernel_rfl) ?_
            repeat (first
              | go_big_quiet_skip
              | (go_big_quiet_want; go_big_quiet_op; go_big_quiet_on)
              | (go_big_quiet_want; go_big_quiet_op; apply Exists.intro; refine ⟨fun p => ?_, ?_⟩; (focus
                  first
                  | (go_at_call 46; exact kp_call (hst _))); go_big_quiet_on))
            refine wpQuiet_nil ?_
            rintro V ⟨p, hp9⟩
            have kV : Kp wr V := by rw [hp9]; exact kpw_kp wr p
            have HKV := hid (HKr.out.trans kV)
            have hOV := kV.own HO.out
            replace cM := kV.held cM
            replace cS := kV.held cS
            clear hst l0 l1 l2 l3 l4 l5 cX HO HKr kV hp9
            cases wb with
            | true =>
              obtain ⟨cl, hcle⟩ : ∃ n, n = (wcL L t (cs.take k)).length := ⟨_, rfl⟩
              rw [← hcle] at hOV hcl
              have Hcle := hid hcle
              have hz3 := HKV.out.size
              have HOV := hid hOV
              clear hcle hOV
              go_upto_region 15 with fail
              go_region_law (refine step_w3 (by rfl) (.tmp 57) (.tmp 69) (by rfl) u1.heap.size _ cl _ (by rfl) (by first | exact ((HOV.out.alloc _)) | exact HOV.out) _ m t s (by rfl) (by simp) (by simp) (by simp) hcl (by simp; omega) ?_; intro v4 w4 ho4 hg4; have HK4 : Hid (Kp u1 w4) := Kp.grown (by first | exact (HKV.out.alloc _).drew | exact (HKV.out.drew).alloc _ | exact HKV.out.alloc _) hg4 (own_lt HOV.out); have Ho4 := hid ho4; clear ho4 hg4)
              all_goals (
                have HO4 : Hid (w4.ownsRow u1.heap.size 100 3 v4 (wcL L t (cs.take (k + 1))).length (wvs t (wcL L t (cs.take (k + 1))))) := by
                  show World.ownsRow _ _ _ _ _ _ _
                  rw [show wcL L t (cs.take (k + 1)) = wcL L t (cs.take k) ++ [(m, s)] by rw [HC1.out]; simp, wvs_app, List.length_append, ← Hcle.out]
                  exact Ho4.out
                clear Ho4
                go_wp2
                go_roundw
                (case rel => exact ⟨k + 1, by omega, by go_num, HO4, HG1, HK4⟩)
                (case measure => simp [intOf]; omega))
            | false =>
              have HO4 : Hid (V.ownsRow u1.heap.size 100 3 u10 (wcL L t (cs.take (k + 1))).length (wvs t (wcL L t (cs.take (k + 1))))) := by
                show World.ownsRow _ _ _ _ _ _ _
                rw [show wcL L t (cs.take (k + 1)) = wcL L t (cs.take k) by rw [HC1.out]; simp]
                exact hOV
              clear hOV cM cS
              go_wp2
              go_roundw
              case rel => exact ⟨k + 1, by omega, by go_num, HO4, HG1, HKV⟩
              case measure => simp [intOf]; omega
          · have hE1 : wcE L.n [cs.getD k noC] = 2 := by rw [HA.out, wc_one1, HN.out, if_pos Hr.out, if_neg h64]
            have hE2 := wc_err HL.out HG.out (by rw [hE1]; decide)
            obtain ⟨e1, e2⟩ := wt_3 (l := cs) HE.out (by rw [hE2, hE1]; decide)
            have HF : Hid (wtE L t cs = 2 ∧ wtL L t cs = []) := ⟨by rw [e1, hE2, hE1], e2⟩
            have h64i : ¬ (s.size : Int) = 64 := by omega
            clear hE1 hE2 e1 e2 HA cM
            go_wp2
            go_ret2
            exact ⟨_, by rw [HF.out.1]; rfl, by rw [HF.out.2]; exact Wi.nil _ _, HK1.out.trans HKr.out⟩
        · have hE1 : wcE L.n [cs.getD k noC] = 3 := by rw [HA.out, wc_one1, HN.out, if_neg hr]
          have hE2 := wc_err HL.out HG.out (by rw [hE1]; decide)
          obtain ⟨e1, e2⟩ := wt_3 (l := cs) HE.out (by rw [hE2, hE1]; decide)
          have HF : Hid (wtE L t cs = 3 ∧ wtL L t cs = []) := ⟨by rw [e1, hE2, hE1], e2⟩
          clear hE1 hE2 e1 e2 HA cS
          by_cases hx0 : x < 0
          · clear hr
            go_wp2
            go_ret2
            exact ⟨_, by rw [HF.out.1]; rfl, by rw [HF.out.2]; exact Wi.nil _ _, HK1.out.trans HKr.out⟩
          · have hx1 : (N : Int) ≤ x := by omega
            clear hr
            go_wp2
            go_ret2
            exact ⟨_, by rw [HF.out.1]; rfl, by rw [HF.out.2]; exact Wi.nil _ _, HK1.out.trans HKr.out⟩
      · have hkl2 : k = kl := by omega
        have htk : cs.take k = cs := by rw [hkl2, Hkl.out, List.take_length]
        rw [htk] at HO HG
        obtain ⟨e1, e2⟩ := wt_4 (l := cs) HE.out HG.out
        have HF := hid (And.intro e1 e2)
        have HWi := hid (Wi.owned HO.out)
        clear htk hkl2 e1 e2 HO HG
        go_wp2
        go_ret2
        exact ⟨_, by rw [HF.out.1]; rfl, by rw [HF.out.2]; exact HWi.out, HK1.out.trans HKr.out⟩
  · obtain ⟨e1, e2⟩ := wt_1 (l := cs) hE
    have HF := hid (And.intro e1 e2)
    obtain ⟨E, eE⟩ : ∃ E, E = lsE L t := ⟨_, rfl⟩
    rw [← eE] at hE HF ⊢
    clear e1 e2 eE iM
    go_wp2
    go_ret2
    exact ⟨_, by rw [HF.out.1]; rfl, by rw [HF.out.2]; exact Wi.nil _ _, HK1.out⟩

end Go.Proofs.YtonooelffokfkaaGreatDoor
