/-
  Contract of Writes. Conditions: that the map and the label's lists lie in memory.
-/
import Derived.Test.YtonooelffokfkaaGreatDoorZRwWk
namespace Go.Proofs.YtonooelffokfkaaGreatDoor
open Go.RowKit Plain Go.Maps Go.WideMaps
set_option linter.unusedVariables false

theorem wt_1 {L : LB} {t : Int} {l : List CB} (h : lsE L t ≠ 0) : wtE L t l = lsE L t ∧ wtL L t l = [] := by
  have e : wtE L t l = lsE L t := if_neg h
  exact ⟨e, if_neg (by rw [e]; exact h)⟩
theorem wt_2 {L : LB} {t : Int} {l : List CB} (h : lsE L t = 0) : wtE L t l = wcE L.n l := if_pos h
theorem wt_3 {L : LB} {t : Int} {l : List CB} (h : lsE L t = 0) (h2 : wcE L.n l ≠ 0) : wtE L t l = wcE L.n l ∧ wtL L t l = [] := by
  have e := wt_2 (l := l) h
  exact ⟨e, if_neg (by rw [e]; exact h2)⟩
theorem wt_4 {L : LB} {t : Int} {l : List CB} (h : lsE L t = 0) (h2 : wcE L.n l = 0) : wtE L t l = 0 ∧ wtL L t l = wcL L t l := by
  have e := wt_2 (l := l) h
  exact ⟨by rw [e, h2], if_pos (by rw [e]; exact h2)⟩

set_option maxRecDepth 100000 in
set_option maxHeartbeats 8000000 in
theorem writes_any (L : LB) (sv mv : Value) (t : Int) {w : World} {b n c : Nat} {f : Int → Option ByteArray} {D : DataW Unit} (h1 : Nl w sv L.sts) (h2 : Nl w mv L.mks) (hm : MpS w b n c f D) (hc : c ≤ 1000) : Calls Tryz.prog 35 #[lV L.n L.s L.ep sv mv, .int .i64 t, .map (some b)] w fun e w' => ∃ v ks, e = .returned (.tuple #[v, .int .i64 (wtE L t (csL f ks))]) ∧ Wi w' v t (wtL L t (csL f ks)) ∧ Sk f c ks ∧ Kp w w' := by
  obtain ⟨i0, hi, hz0, hz1, hz2⟩ := info_parts info_rw
  obtain ⟨sa, sg, so, sc, rfl, na⟩ := h1
  obtain ⟨ma, mg, mo, mc, rfl, nb⟩ := h2
  have HN1 : Hid (Nl w (.slice sa L.sts.length sc) L.sts) := ⟨sa, sg, so, sc, rfl, na⟩
  have HN2 : Hid (Nl w (.slice ma L.mks.length mc) L.mks) := ⟨ma, mg, mo, mc, rfl, nb⟩
  obtain ⟨n1, hn1⟩ : ∃ n, n = L.sts.length := ⟨_, rfl⟩
  obtain ⟨n2, hn2⟩ : ∃ n, n = L.mks.length := ⟨_, rfl⟩
  rw [← hn1] at HN1 ⊢
  rw [← hn2] at HN2 ⊢
  have lc := Lc.new w L.n L.s L.ep (.slice sa n1 sc) (.slice ma n2 mc) 30
  have K0 : Kp w (w.alloc (.cells #[.int .i64 L.n, .int .i64 L.s, .int .i64 L.ep, .slice sa n1 sc, .slice ma n2 mc] 30)) := (Kp.refl w).alloc _
  obtain ⟨W, hW⟩ : ∃ W, W = w.alloc (.cells #[.int .i64 L.n, .int .i64 L.s, .int .i64 L.ep, .slice sa n1 sc, .slice ma n2 mc] 30) := ⟨_, rfl⟩
  rw [← hW] at lc K0
  obtain ⟨A0, hA0⟩ : ∃ A0, A0 = w.heap.size := ⟨_, rfl⟩
  rw [← hA0] at lc
  have hLi := lies_any L (.slice sa n1 sc) (.slice ma n2 mc) t W (HN1.out.kept K0) (HN2.out.kept K0)
  have cWh := fun m V (k : Kp w V) => lwhole_any L (.slice sa n1 sc) (.slice ma n2 mc) m t V (HN1.out.kept k) (HN2.out.kept k)
  unfold lV at hLi cWh ⊢
  have HcW := hid cWh
  have HLc : Hid (∀ V, Kp W V → Lc V A0 L.n L.s L.ep (.slice sa n1 sc) (.slice ma n2 mc)) := fun V k => lc.kept k
  have HK0 := hid K0
  have HW := hid hW
  have HA0 := hid hA0
  have HM := hid hm
  obtain ⟨l0, l1, l2, l3, l4⟩ := lc
  clear na nb hn1 hn2 hW hA0 K0 cWh hm
  go_enter Tryz.func35, Tryz.ntmps35
  go_upto_region 1 with fail
  rw [← HW.out, ← HA0.out]
  go_wp2_with fail
  refine hLi.mono ?_; rintro e u1 ⟨mw, rfl, iM, k1⟩
  have HK1 := hid (HK0.out.trans k1)
  have HLk : Hid (∀ V, Kp u1 V → Lc V A0 L.n L.s L.ep (.slice sa n1 sc) (.slice ma n2 mc)) := fun V k => HLc.out V (k1.trans k)
  clear hLi l0 l1 l2 l3 l4 k1 HLc HK0 HW HA0
  by_cases hE : lsE L t = 0
  · rw [hE]
    obtain ⟨_, z2, htr, hlsL⟩ := ls_zero hE
    obtain ⟨y1, y2, y3, y4⟩ := (gg_iff _ _).1 z2
    obtain ⟨N, hN⟩ : ∃ N : Nat, L.n = N := ⟨L.n.toNat, by omega⟩
    have hN32 : 4 ≤ N ∧ N ≤ 32 := by omega
    rw [hlsL] at iM
    have hNn : (rowL L.n t).length = N := by rw [rowL_len, hN]; omega
    obtain ⟨xa, xg, xc, hmw, x1, x2, x3, x4⟩ := iM
    rw [hNn] at hmw x1 x3 x4
    subst hmw
    obtain rfl := x3 (by omega)
    have HMx : Hid (∀ j, j < N → u1.cell? ⟨xg, j, none⟩ = some (.int .i64 (mM L.n t j))) := fun j hj => by rw [x4 j hj, rowL_at _ _ _ (by rw [hN]; omega)]
    have hM1 := HM.out.kp HK1.out
    have hSo := sort_keys hM1 hc
    have HE := hid hE
    have HN := hid hN
    have cK := keys_any (some b)
    clear hE z2 htr hlsL y1 y2 y3 y4 x3 x4 hNn hN hM1
    go_wp2_with fail
    refine (cK _).mono ?_; rintro e u2 ⟨rfl, rfl⟩
    go_wp2_with fail
    refine hSo.mono ?_; rintro e u3 ⟨kv, ks, rfl, iK, hSk, k3⟩
    obtain ⟨ka, kg, kc, hkv, q1, q2, q3, q4⟩ := iK
    obtain ⟨kl, hkl⟩ : ∃ n, n = ks.length := ⟨_, rfl⟩
    rw [← hkl] at hkv q1 q3 q4
    subst hkv
    have HKs : Hid (∀ j, j < kl → u3.cell? ⟨kg, j, none⟩ = some (.int .i64 (ks.getD j 0))) := q4
    have HKa : Hid (0 < kl → ka = some ⟨kg, 0, none⟩) := q3
    have Hkl := hid hkl
    have HSk := hid hSk
    have hkl1 : kl ≤ 1000 := by rw [hkl, hSk.2.1]; exact hc
    have HK3 := hid (HK1.out.trans k3)
    have Hk3 := hid k3
    clear hSo cK q3 q4 hkl hSk k3
    go_wp2_with fail
    go_loopw [10, 28] (fun v i wr => ∃ k : Nat, k ≤ kl ∧ i = .int .i64 k ∧ Hid (wr.ownsRow u3.heap.size 101 3 v (wcL L t ((csL f ks).take k)).length (wvs t (wcL L t ((csL f ks).take k)))) ∧ Hid (wcE L.n ((csL f ks).take k) = 0) ∧ Hid (Kp u3 wr)) (fun _ i _ => kl - (intOf i).toNat)
    case atStart => exact ⟨0, by omega, by go_num, World.ownsRow_nil _ _ _ _, rfl, Kp.refl u3⟩
    case round =>
      obtain ⟨k, hk, rfl, HO, HG, HKr⟩ := hrel
      by_cases hlt : k < kl
      · obtain rfl := HKa.out (by omega)
        have cX := HKr.out.held (HKs.out k hlt)
        have hlen : k < (csL f ks).length := by rw [csL_len, ← Hkl.out]; exact hlt
        have hat := csL_at f ks (k := k) (by rw [← Hkl.out]; exact hlt)
        have hmem : ks.getD k 0 ∈ ks := by
          have : k < ks.length := by rw [← Hkl.out]; exact hlt
          rw [List.getD_eq_getElem?_getD, List.getElem?_eq_getElem this]; exact List.getElem_mem _
        obtain ⟨hok, hsome⟩ := (HSk.out.2.2 _).1 hmem
        obtain ⟨x, hx⟩ : ∃ x, x = ks.getD k 0 := ⟨_, rfl⟩
        rw [← hx] at cX hat hok hsome
        obtain ⟨s, hs⟩ := Option.isSome_iff_exists.1 hsome
        rw [hs] at hat
        have hat2 : (csL f ks).getD k noC = (x, s) := hat
        have HA := hid hat2
        have HL := hid hlen
        have hs64 := ((HM.out.at_ x hok).2 s hs).1
        clear hat hat2 hmem hsome hx hlen
        by_cases hr : 0 ≤ x ∧ x < (N : Int)
        · obtain ⟨X, rfl⟩ : ∃ X : Nat, x = X := ⟨x.toNat, by omega⟩
          have hXN : X < N := by omega
          have hnx : ¬ (X : Int) < 0 := by omega
          have hnx2 : ¬ (N : Int) ≤ (X : Int) := by omega
          have hlk := (HM.out.kp (HK3.out.trans HKr.out)).look hok hs
          have cM := (Hk3.out.trans HKr.out).held (((Kp.refl u1)).held (HMx.out X hXN))
          have Hr := hid hr
          clear hr
          by_cases h64 : s.size = 64
          · have hwh := HcW.out (mM L.n t X) wr (HK3.out.trans HKr.out)
            obtain ⟨m, hm_⟩ : ∃ m, m = mM L.n t X := ⟨_, rfl⟩
            rw [← hm_] at cM hwh
            obtain ⟨l0, l1, l2, l3, l4⟩ := HLk.out wr (Hk3.out.trans HKr.out)
            obtain ⟨wb, hwb⟩ : ∃ x, x = wh L m t := ⟨_, rfl⟩
            rw [← hwb] at hwh
            have hE1 : wcE L.n [(csL f ks).getD k noC] = 0 := by rw [HA.out, wc_one1, HN.out, if_pos Hr.out, if_pos h64]
            have HG1 : Hid (wcE L.n ((csL f ks).take (k + 1)) = 0) := wc_go HL.out HG.out hE1
            have h64i : (s.size : Int) = 64 := by omega
            have hC1 : wcL L t ((csL f ks).take (k + 1)) = wcL L t ((csL f ks).take k) ++ (if wb = true then [(m, s)] else []) := by
              rw [take_succC HL.out, wcL_app, HA.out]
              show _ ++ (if wh L (mM L.n t (X : Int)) t = true then [(mM L.n t (X : Int), s)] else []) = _
              rw [← hm_, ← hwb]
            have HC1 := hid hC1
            have hcl : (wcL L t ((csL f ks).take k)).length ≤ 1000 := by
              have a := wcL_len L t ((csL f ks).take k)
              have b := List.length_take_le k (csL f ks)
              omega
            clear hE1 hC1 hm_ hwb HA
            go_wp2_with fail
            refine hwh.mono ?_; rintro e V ⟨rfl, kV⟩
            have HKV := hid (HKr.out.trans kV)
            have hOV := kV.own HO.out
            clear hwh cM l0 l1 l2 l3 l4 cX hlk HO HKr kV
            cases wb with
            | true =>
              obtain ⟨cl, hcle⟩ : ∃ n, n = (wcL L t ((csL f ks).take k)).length := ⟨_, rfl⟩
              rw [← hcle] at hOV hcl
              have hz3 := HKV.out.size
              go_wp2_with (at_builtin; refine wpList_append_own _ rfl _ _ 93 rfl u3.heap.size 101 i0 (.agg #[.int .i64 0, .int .i64 0, .string ByteArray.empty]) 3 32 Tryz.underlying93 hi hz0 hz1 hz2 rfl (by decide) _ _ _ rfl (hOV.alloc _) ⟨V.heap.size, 0, none⟩ 1 1 [.int .i64 m, .int .i64 t, .string s] rfl rfl ?c1 ?c2 ?c3 ?c4 ?c5 ?_)
              case c1 =>
                intro j u hj
                match j, hj with
                | 0, hj => simp at hj; subst hj; simp [Addr.add]
                | 1, hj => simp at hj; subst hj; simp [Addr.add]
                | 2, hj => simp at hj; subst hj; simp [Addr.add]
              case c2 => intro u hu; simp at hu; rcases hu with rfl | rfl | rfl <;> rfl
              case c3 => unfold maxLen; omega
              case c4 => omega
              case c5 => simp; omega
              intro v4 w4 ho4 hg4 _
              have HK4 : Hid (Kp u3 w4) := (HKV.out.alloc _).grown hg4 (own_lt hOV)
              have HO4 : Hid (w4.ownsRow u3.heap.size 101 3 v4 (wcL L t ((csL f ks).take (k + 1))).length (wvs t (wcL L t ((csL f ks).take (k + 1))))) := by
                show World.ownsRow _ _ _ _ _ _ _
                rw [show wcL L t ((csL f ks).take (k + 1)) = wcL L t ((csL f ks).take k) ++ [(m, s)] by rw [HC1.out]; simp, wvs_app, List.length_append]
                exact ho4
              clear ho4 hg4 hOV
              go_wp2
              go_roundw
              case rel => exact ⟨k + 1, by omega, by go_num, HO4, HG1, HK4⟩
              case measure => simp [intOf]; omega
            | false =>
              have HO4 : Hid (V.ownsRow u3.heap.size 101 3 u10 (wcL L t ((csL f ks).take (k + 1))).length (wvs t (wcL L t ((csL f ks).take (k + 1))))) := by
                show World.ownsRow _ _ _ _ _ _ _
                rw [show wcL L t ((csL f ks).take (k + 1)) = wcL L t ((csL f ks).take k) by rw [HC1.out]; simp]
                exact hOV
              clear hOV
              go_wp2
              go_roundw
              case rel => exact ⟨k + 1, by omega, by go_num, HO4, HG1, HKV⟩
              case measure => simp [intOf]; omega
          · have hE1 : wcE L.n [(csL f ks).getD k noC] = 2 := by rw [HA.out, wc_one1, HN.out, if_pos Hr.out, if_neg h64]
            have hE2 := wc_err HL.out HG.out (by rw [hE1]; decide)
            obtain ⟨e1, e2⟩ := wt_3 (l := csL f ks) HE.out (by rw [hE2, hE1]; decide)
            have HF : Hid (wtE L t (csL f ks) = 2 ∧ wtL L t (csL f ks) = []) := ⟨by rw [e1, hE2, hE1], e2⟩
            have h64i : ¬ (s.size : Int) = 64 := by omega
            clear hE1 hE2 e1 e2 HA cM
            go_wp2
            go_ret2
            exact ⟨_, ks, by rw [HF.out.1]; rfl, by rw [HF.out.2]; exact Wi.nil _ _, HSk.out, HK3.out.trans HKr.out⟩
        · have hE1 : wcE L.n [(csL f ks).getD k noC] = 3 := by rw [HA.out, wc_one1, HN.out, if_neg hr]
          have hE2 := wc_err HL.out HG.out (by rw [hE1]; decide)
          obtain ⟨e1, e2⟩ := wt_3 (l := csL f ks) HE.out (by rw [hE2, hE1]; decide)
          have HF : Hid (wtE L t (csL f ks) = 3 ∧ wtL L t (csL f ks) = []) := ⟨by rw [e1, hE2, hE1], e2⟩
          clear hE1 hE2 e1 e2 HA
          by_cases hx0 : x < 0
          · clear hr
            go_wp2
            go_ret2
            exact ⟨_, ks, by rw [HF.out.1]; rfl, by rw [HF.out.2]; exact Wi.nil _ _, HSk.out, HK3.out.trans HKr.out⟩
          · have hx1 : (N : Int) ≤ x := by omega
            clear hr
            go_wp2
            go_ret2
            exact ⟨_, ks, by rw [HF.out.1]; rfl, by rw [HF.out.2]; exact Wi.nil _ _, HSk.out, HK3.out.trans HKr.out⟩
      · have hkl2 : k = kl := by omega
        have htk : (csL f ks).take k = csL f ks := by rw [hkl2, Hkl.out, ← csL_len f ks, List.take_length]
        rw [htk] at HO HG
        obtain ⟨e1, e2⟩ := wt_4 (l := csL f ks) HE.out HG.out
        have HF := hid (And.intro e1 e2)
        have HWi := hid (Wi.owned HO.out)
        clear htk hkl2 e1 e2 HO HG
        go_wp2
        go_ret2
        exact ⟨_, ks, by rw [HF.out.1]; rfl, by rw [HF.out.2]; exact HWi.out, HSk.out, HK3.out.trans HKr.out⟩
  · obtain ⟨ks, hSk⟩ := HM.out.some_keys
    obtain ⟨e1, e2⟩ := wt_1 (l := csL f ks) hE
    have HF := hid (And.intro e1 e2)
    have HSk := hid hSk
    obtain ⟨E, eE⟩ : ∃ E, E = lsE L t := ⟨_, rfl⟩
    rw [← eE] at hE HF ⊢
    clear e1 e2 hSk eE iM
    go_wp2
    go_ret2
    exact ⟨_, ks, by rw [HF.out.1]; rfl, by rw [HF.out.2]; exact Wi.nil _ _, HSk.out, HK1.out⟩

end Go.Proofs.YtonooelffokfkaaGreatDoor
