/-
  Contracts of the document's Lost and of the laws' alike. Conditions: that the lists lie in memory.
-/
import Derived.Test.YtonooelffokfkaaGreatDoorZSet
namespace Go.Proofs.YtonooelffokfkaaGreatDoor
open Go.RowKit Plain
set_option linter.unusedVariables false

theorem ints_parts {w : World} {v : Value} {l : List Int} (h : IntsIn w v l) : ∃ a g off cap, v = .slice a l.length cap ∧ l.length ≤ cap ∧ cap ≤ maxLen ∧ (0 < l.length → a = Option.some ⟨g, off, none⟩) ∧ ∀ i, i < l.length → w.cell? ⟨g, off + i, none⟩ = Option.some (.int .i64 (l.getD i 0)) := by
  cases h with
  | empty a cap h => exact ⟨a, 0, 0, cap, rfl, by simp, h, fun h => absurd h (by simp), fun i hi => absurd hi (by simp)⟩
  | some b off cap l h0 h1 h2 hc => exact ⟨_, b, off, cap, rfl, h1, h2, fun _ => rfl, hc⟩
set_option maxRecDepth 100000 in
theorem members_any (L : LB) (sv mv : Value) (t : Int) (w : World) (h1 : Nl w sv L.sts) (h2 : Nl w mv L.mks) : Calls Tryz.prog 45 #[lV L.n L.s L.ep sv mv, .int .i64 t] w fun e w' => ∃ v, e = .returned (.tuple #[v, .int .i64 (lsE L t)]) ∧ InI w' v (lsL L t) ∧ Kp w w' := by
  have hG := fun w' (k : Kp w w') => rlgood_any L sv mv w' (h1.kept k) (h2.kept k)
  have hR := fun w' => rrow_any L.n L.s t w'
  have HY := @ls_yes L t
  have HN := @ls_no L t
  clear h1 h2
  obtain ⟨E, eE⟩ : ∃ E, E = lsE L t := ⟨_, rfl⟩
  obtain ⟨R, eR⟩ : ∃ R, R = lsL L t := ⟨_, rfl⟩
  rw [← eE, ← eR] at HY HN
  rw [← eE, ← eR]
  clear eE eR
  obtain ⟨n, s, ep, sts, mks⟩ := L
  simp only at *
  unfold lV at hG ⊢
  unfold gV at hR
  cases e1 : lg ⟨n, s, ep, sts, mks⟩ with
  | false =>
    rw [e1] at hG
    obtain ⟨rfl, rfl⟩ := HN e1
    clear hR HY HN e1
    go_enter Tryz.func45, Tryz.ntmps45
    go_wp2_with fail
    refine (hG _ ((Kp.refl w).alloc _)).mono ?_; rintro e w1 ⟨rfl, k1⟩
    have K1 : Kp w w1 := ((Kp.refl w).alloc _).trans k1
    clear hG k1
    go_wp2
    go_ret2
    exact ⟨_, rfl, InI.nil _, K1⟩
  | true =>
    rw [e1] at hG
    obtain ⟨rfl, rfl⟩ := HY e1
    clear HY HN e1
    go_enter Tryz.func45, Tryz.ntmps45
    go_wp2_with fail
    refine (hG _ ((Kp.refl w).alloc _)).mono ?_; rintro e w1 ⟨rfl, k1⟩
    obtain ⟨c0, c1, c2, c3, c4⟩ := (Lc.new w n s ep sv mv 33).kept k1
    have K1 : Kp w w1 := ((Kp.refl w).alloc _).trans k1
    clear hG k1
    go_wp2_with fail
    refine (hR _).mono ?_; rintro e w2 ⟨v, rfl, i2, k2⟩
    have K2 := K1.trans k2
    clear hR k2 K1 c0 c1 c2 c3 c4
    go_wp2
    go_ret2
    exact ⟨v, rfl, i2, K2⟩

/-- is it among the first i? -/
def anB (D : List Int) (m : Int) (i : Nat) : Bool := (D.take i).any fun x => x == m
theorem anB_step (D : List Int) (m : Int) (i : Nat) (hi : i < D.length) : anB D m (i + 1) = (anB D m i || (D.getD i 0 == m)) := by
  unfold anB
  rw [List.take_add_one, List.getElem?_eq_getElem hi, List.any_append, List.getD_eq_getElem?_getD, List.getElem?_eq_getElem hi]
  simp
theorem anB_all (D : List Int) (m : Int) (h0 : 0 ≤ m) (h1 : m < 256) : anB D m D.length = hasB (inL D) m := by
  unfold anB hasB inL
  rw [List.take_length, decide_eq_true ⟨h0, h1⟩, Bool.true_and, show ((m.toNat : Nat) : Int) = m by omega]

set_option maxRecDepth 100000 in
set_option maxHeartbeats 2000000 in
theorem rlost16 (L : LB) (sv mv : Value) (D : List Int) (dv : Value) (t : Int) (w : World) (h1 : Nl w sv L.sts) (h2 : Nl w mv L.mks) (hD : IntsIn w dv D) : Calls Tryz.prog 10 #[lV L.n L.s L.ep sv mv, dv, .int .i64 t] w fun e w' => ∃ v, e = .returned (.tuple #[v, .int .i64 (lsE L t)]) ∧ IntsAt w' w.heap.size v (loL L D t) ∧ Kp w w' := by
  have hI := fun w' (k : Kp w w') => members_any L sv mv t w' (h1.kept k) (h2.kept k)
  have hW := fun w' (k : Kp w w') m => rwhole_any L sv mv m t w' (h1.kept k) (h2.kept k)
  clear h1 h2
  by_cases hz : lsE L t = 0
  case neg =>
    have HL : Hid (loL L D t = []) := if_neg hz
    clear hW
    obtain ⟨E, eE⟩ : ∃ E, E = lsE L t := ⟨_, rfl⟩
    rw [← eE] at hz hI ⊢
    clear eE
    unfold lV at hI ⊢
    go_enter Tryz.func10, Tryz.ntmps10
    go_wp2_with fail
    refine (hI _ ((Kp.refl w).alloc _)).mono ?_; rintro e w1 ⟨v, rfl, i1, k1⟩
    have K1 : Kp w w1 := ((Kp.refl w).alloc _).trans k1
    clear hI k1
    go_wp2
    go_ret2
    exact ⟨_, rfl, by rw [HL.out]; exact .empty none 0 (by unfold maxLen; omega), K1⟩
  obtain ⟨z1, z2, z3, z4⟩ := ls_zero hz
  have HL : Hid (loL L D t = loN L D t L.n.toNat) := if_pos hz
  obtain ⟨g1, g2, g3, g4⟩ := (gg_iff _ _).1 z2
  rw [hz, z4] at hI
  rw [hz]
  clear z1 z2 z3 z4 hz
  have HP : Hid (∀ c : Nat, loP L D t c = (hasB (inL D) (mM L.n t c) || !wh L (mM L.n t c) t)) := fun _ => rfl
  have HR : Hid ((rowL L.n t).length = L.n.toNat ∧ ∀ c, c < L.n.toNat → (rowL L.n t).getD c 0 = mM L.n t c) := ⟨rowL_len _ _, rowL_at _ _⟩
  have HB : Hid (∀ c : Nat, 0 ≤ mM L.n t c ∧ mM L.n t c < 256) := fun c => by have := mM_bd (n := L.n) t c (by omega); omega
  obtain ⟨N, hN⟩ : ∃ N : Nat, L.n = N := ⟨L.n.toNat, by omega⟩
  have hN4 : 4 ≤ N := by omega
  have hN32 : N ≤ 32 := by omega
  rw [hN, Int.toNat_natCast] at HL HR
  rw [hN] at HP HB
  rw [hN] at hI hW ⊢
  clear hN g1 g2 g3 g4
  obtain ⟨s, es⟩ : ∃ s, s = L.s := ⟨_, rfl⟩
  obtain ⟨ep, eep⟩ : ∃ s, s = L.ep := ⟨_, rfl⟩
  rw [← es, ← eep] at hI hW ⊢
  clear es eep
  unfold lV at hI hW ⊢
  obtain ⟨da, dg, dof, dc, rfl, d1, d2, d3, d4⟩ := ints_parts hD
  obtain ⟨nD, enD⟩ : ∃ n, n = D.length := ⟨_, rfl⟩
  have HAn : Hid (∀ m i, i < nD → anB D m (i + 1) = (anB D m i || (D.getD i 0 == m))) := fun m i hi => anB_step D m i (by rw [← enD]; exact hi)
  have HAl : Hid (∀ m, 0 ≤ m → m < 256 → anB D m nD = hasB (inL D) m) := fun m h0 h1 => by rw [enD]; exact anB_all D m h0 h1
  rw [← enD] at d1 d3 d4 ⊢
  have HDa : Hid (0 < nD → da = some ⟨dg, dof, none⟩) := d3
  have HDc : Hid (∀ i, i < nD → w.cell? ⟨dg, dof + i, none⟩ = some (.int .i64 (D.getD i 0))) := d4
  have d2' : dc ≤ 9223372036854775807 := by unfold maxLen at d2; omega
  clear hD enD d3 d4 d2
  go_enter Tryz.func10, Tryz.ntmps10
  go_wp2_with fail
  refine (hI _ ((Kp.refl w).alloc _)).mono ?_; rintro e w1 ⟨v, rfl, i1, k1⟩
  have lc1 := (Lc.new w N s ep sv mv 33).kept k1
  have K1 : Hid (Kp w w1) := ((Kp.refl w).alloc _).trans k1
  obtain ⟨a, g, cap, rfl, x1, x2, x3, x4⟩ := i1
  obtain rfl := x3 (by rw [HR.out.1]; omega)
  rw [HR.out.1] at x1 x4
  rw [HR.out.1]
  have X1 : Hid (∀ V, Kp w1 V → Lc V w.heap.size N s ep sv mv ∧ ∀ c, c < N → V.cell? ⟨g, c, none⟩ = some (.int .i64 (mM N t c))) := fun V k => ⟨lc1.kept k, fun c hc => by rw [k.held (x4 c hc), HR.out.2 c hc]⟩
  clear hI k1 x3 x4 lc1
  go_wp2_with fail
  go_loopw [10, 11] (fun v i wr => ∃ k : Nat, k ≤ N ∧ i = .int .i64 k ∧ Hid (OwnI wr w1.heap.size v (loN L D t k)) ∧ Hid (Kp w1 wr)) (fun _ i _ => N - (intOf i).toNat)
  case atStart => exact ⟨0, by omega, by go_num, World.ownsRow_nil _ _ _ _, Kp.refl w1⟩
  case round =>
    obtain ⟨k, hk, rfl, HO, HK⟩ := hrel
    rename World => wo
    by_cases hlt : k < N
    · obtain ⟨⟨c0, c1, c2, c3, c4⟩, hx⟩ := X1.out _ HK.out
      have hxk := hx k hlt
      have hpk := HP.out k
      have hbk := HB.out k
      obtain ⟨m, em⟩ : ∃ m, m = mM N t k := ⟨_, rfl⟩
      rw [← em] at hxk hpk hbk
      have hAl := HAl.out m hbk.1 hbk.2
      rw [← hAl] at hpk
      have HX := hid hx
      clear em hx hAl
      go_wp2_with fail
      go_loopw [12, 13] (fun fl i wr => ∃ j : Nat, j ≤ nD ∧ i = .int .i64 j ∧ fl = .bool (anB D m j) ∧ Hid (Kp wo wr)) (fun _ i _ => nD - (intOf i).toNat)
      case atStart => exact ⟨0, by omega, by go_num, rfl, Kp.refl wo⟩
      case round =>
        obtain ⟨j, hj, rfl, rfl, HKj⟩ := hrel
        by_cases hjn : j < nD
        · obtain rfl := HDa.out (by omega)
          have cD := HKj.out.held (HK.out.held (K1.out.held (HDc.out j hjn)))
          have cM := HKj.out.held hxk
          have hst := HAn.out m j hjn
          obtain ⟨x, ex⟩ : ∃ x, x = D.getD j 0 := ⟨_, rfl⟩
          rw [← ex] at cD hst
          have kd : Kp wr wr.drew := (Kp.refl wr).drew
          have dD := kd.held cD
          have dM := kd.held cM
          have HK2 : Hid (Kp wo wr.drew) := HKj.out.trans kd
          clear ex
          go_wp2_with fail
          by_cases hxm : x = m
          · subst hxm
            have hst2 : anB D x (j + 1) = true := by rw [hst]; simp
            go_region_held3 (fun V => V.cell? ⟨dg, dof + j, none⟩ = some (.int .i64 x) ∧ V.cell? ⟨g, k, none⟩ = some (.int .i64 x)) (first | exact ⟨dD, dM⟩ | exact ⟨cD, cM⟩) (fail)
            go_wp2
            go_roundw
            case rel => exact ⟨j + 1, by omega, by go_num, by rw [hst2], HK2⟩
            case measure => simp [intOf]; omega
          · have hst2 : anB D m (j + 1) = anB D m j := by rw [hst, beq_eq_false_iff_ne.2 hxm, Bool.or_false]
            have hxb : (x == m) = false := beq_eq_false_iff_ne.2 hxm
            go_region_held3 (fun V => V.cell? ⟨dg, dof + j, none⟩ = some (.int .i64 x) ∧ V.cell? ⟨g, k, none⟩ = some (.int .i64 m)) (first | exact ⟨dD, dM⟩ | exact ⟨cD, cM⟩) (fail)
            go_wp2
            go_roundw
            case rel => exact ⟨j + 1, by omega, by go_num, by rw [hst2], HK2⟩
            case measure => simp [intOf]; omega
        · obtain rfl : j = nD := by omega
          rename World => wi
          have K2 : Hid (Kp w1 wi) := HK.out.trans HKj.out
          have HO2 : Hid (OwnI wi w1.heap.size _ (loN L D t k)) := HO.out.kept HKj.out
          obtain ⟨⟨c0, c1, c2, c3, c4⟩, _⟩ := X1.out _ K2.out
          have cM := HKj.out.held hxk
          have kd : Kp wi wi.drew := (Kp.refl wi).drew
          have hLV : ∀ V, Kp wi V → V.cell? ⟨w.heap.size, 0, none⟩ = some (.int .i64 (N : Int)) ∧ V.cell? ⟨w.heap.size, 1, none⟩ = some (.int .i64 s) ∧ V.cell? ⟨w.heap.size, 2, none⟩ = some (.int .i64 ep) ∧ V.cell? ⟨w.heap.size, 3, none⟩ = some sv ∧ V.cell? ⟨w.heap.size, 4, none⟩ = some mv ∧ V.cell? ⟨g, k, none⟩ = some (.int .i64 m) := fun V q => ⟨q.held c0, q.held c1, q.held c2, q.held c3, q.held c4, q.held cM⟩
          have hWm := hW wi.drew ((K1.out.trans K2.out).trans kd) m
          have hjn2 : ¬ (j : Int) < (j : Int) := by omega
          obtain ⟨an, ean⟩ : ∃ b, b = anB D m j := ⟨_, rfl⟩
          rw [← ean] at hpk ⊢
          obtain ⟨wb, ewb⟩ : ∃ b, b = wh L m t := ⟨_, rfl⟩
          rw [← ewb] at hpk hWm
          clear c0 c1 c2 c3 c4 cM HKj HK HO ean ewb
          go_upto_region 14 with fail
          go_region_held3 (fun V => V.cell? ⟨w.heap.size, 0, none⟩ = some (.int .i64 (N : Int)) ∧ V.cell? ⟨w.heap.size, 1, none⟩ = some (.int .i64 s) ∧ V.cell? ⟨w.heap.size, 2, none⟩ = some (.int .i64 ep) ∧ V.cell? ⟨w.heap.size, 3, none⟩ = some sv ∧ V.cell? ⟨w.heap.size, 4, none⟩ = some mv ∧ V.cell? ⟨g, k, none⟩ = some (.int .i64 m)) (first | exact hLV _ (kd.trans k5) | exact hLV _ kd | exact hLV _ (Kp.refl _)) (first
            | (go_at_call 46; refine hWm.mono ?_; rintro e w5 ⟨rfl, k5⟩))
          have K5 : Hid (Kp w1 w5) := K2.out.trans (kd.trans k5)
          have HO5 : Hid (OwnI w5 w1.heap.size _ (loN L D t k)) := HO2.out.kept (kd.trans k5)
          have HL5 : Hid ((loN L D t k).length ≤ k) := loN_len _ _ _ _
          clear hWm hLV K2 HO2 kd k5
          cases an with
          | true =>
            have HY : Hid (loN L D t (k + 1) = loN L D t k ++ [(k : Int)]) := loN_yes (by rw [hpk]; rfl)
            clear hpk
            go_wp2_with (at_builtin; refine wpList_append_int rfl _ _ rfl w1.heap.size _ (loN L D t k) rfl (HO5.out.alloc _) (k : Int) _ rfl (by rw [World.cell?_alloc_at _ _ _ _ rfl]; rfl) (by have := HL5.out; omega) (by have := K5.out.size; simp; omega) ?_; intro u2 w6 ho2 hg2; have K6 : Hid (Kp w1 w6) := (K5.out.alloc _).grown hg2 (fun q hq => own_lt HO5.out q hq); have HO6 : Hid (OwnI w6 w1.heap.size u2 (loN L D t (k + 1))) := (by rw [HY.out]; exact ho2); clear ho2 hg2 HO5 K5 HL5)
            go_wp2
            go_roundw
            case rel => exact ⟨k + 1, by omega, by go_num, HO6, K6⟩
            case measure => simp [intOf]; omega
          | false =>
            cases wb with
            | false =>
              have HY : Hid (loN L D t (k + 1) = loN L D t k ++ [(k : Int)]) := loN_yes (by rw [hpk]; rfl)
              clear hpk
              go_wp2_with (at_builtin; refine wpList_append_int rfl _ _ rfl w1.heap.size _ (loN L D t k) rfl (HO5.out.alloc _) (k : Int) _ rfl (by rw [World.cell?_alloc_at _ _ _ _ rfl]; rfl) (by have := HL5.out; omega) (by have := K5.out.size; simp; omega) ?_; intro u2 w6 ho2 hg2; have K6 : Hid (Kp w1 w6) := (K5.out.alloc _).grown hg2 (fun q hq => own_lt HO5.out q hq); have HO6 : Hid (OwnI w6 w1.heap.size u2 (loN L D t (k + 1))) := (by rw [HY.out]; exact ho2); clear ho2 hg2 HO5 K5 HL5)
              go_wp2
              go_roundw
              case rel => exact ⟨k + 1, by omega, by go_num, HO6, K6⟩
              case measure => simp [intOf]; omega
            | true =>
              have HY : Hid (loN L D t (k + 1) = loN L D t k) := loN_no (by rw [hpk]; rfl)
              have HO6 : Hid (OwnI w5 w1.heap.size _ (loN L D t (k + 1))) := (by rw [HY.out]; exact HO5.out)
              clear hpk HO5 HL5
              go_wp2
              go_roundw
              case rel => exact ⟨k + 1, by omega, by go_num, HO6, K5⟩
              case measure => simp [intOf]; omega
    · obtain rfl : k = N := by omega
      have hkn : ¬ (k : Int) < (k : Int) := by omega
      go_wp2
      go_ret2
      exact ⟨_, rfl, by rw [HL.out]; exact HO.out.at0.mono K1.out.size, K1.out.trans HK.out⟩

set_option maxRecDepth 100000 in
set_option maxHeartbeats 1000000 in
theorem alike_same (va vb : Value) (A : List Int) (w : World) (hA : IntsIn w va A) (hB : IntsIn w vb A) : Calls Tryz.prog 11 #[va, vb] w fun e w' => e = .returned (.bool true) ∧ Kp w w' := by
  obtain ⟨a, g, o, c, rfl, l1, l2, l3, l4⟩ := ints_parts hA
  obtain ⟨a', g', o', c', rfl, m1, m2, m3, m4⟩ := ints_parts hB
  obtain ⟨n, en⟩ : ∃ n, n = A.length := ⟨_, rfl⟩
  rw [← en] at l1 l3 l4 m1 m3 m4 ⊢
  have l2' : c ≤ 9223372036854775807 := by unfold maxLen at l2; omega
  have m2' : c' ≤ 9223372036854775807 := by unfold maxLen at m2; omega
  have HL3 := hid l3
  have HM3 := hid m3
  have HL4 := hid l4
  have HM4 := hid m4
  clear hA hB en l3 l4 m3 m4 l2 m2
  go_enter Tryz.func11, Tryz.ntmps11
  go_wp2_with fail
  go_loopw [13] (fun i wr => ∃ k : Nat, k ≤ n ∧ i = .int .i64 k ∧ Hid (Kp w wr)) (fun i _ => n - (intOf i).toNat)
  case atStart => exact ⟨0, by omega, by go_num, Kp.refl w⟩
  case round =>
    obtain ⟨k, hk, rfl, HK⟩ := hrel
    by_cases hlt : k < n
    · obtain rfl := HL3.out (by omega)
      obtain rfl := HM3.out (by omega)
      have c0 := HK.out.held (HL4.out k hlt)
      have c1 := HK.out.held (HM4.out k hlt)
      obtain ⟨x, ex⟩ : ∃ x, x = A.getD k 0 := ⟨_, rfl⟩
      rw [← ex] at c0 c1
      have kd : Kp wr wr.drew := (Kp.refl wr).drew
      have d0 := kd.held c0
      have d1 := kd.held c1
      have HK2 : Hid (Kp w wr.drew) := HK.out.trans kd
      clear ex
      go_wp2_with fail
      go_region_held3 (fun V => V.cell? ⟨g, o + k, none⟩ = some (.int .i64 x) ∧ V.cell? ⟨g', o' + k, none⟩ = some (.int .i64 x)) (first | exact ⟨d0, d1⟩ | exact ⟨c0, c1⟩) (fail)
      go_wp2
      go_roundw
      case rel => exact ⟨k + 1, by omega, by go_num, HK2⟩
      case measure => simp [intOf]; omega
    · obtain rfl : k = n := by omega
      go_wp2
      go_ret
      exact ⟨rfl, HK.out⟩
theorem mask7 (n : Int) : bits .and .i64 n 7 = n % 8 := by
  have h : (BitVec.ofInt 64 7).toNat = 2 ^ 3 - 1 := by decide
  have key : (BitVec.ofInt 64 n &&& BitVec.ofInt 64 7).toNat = (n % ((2 ^ 64 : Nat) : Int)).toNat % 2 ^ 3 := by
    rw [BitVec.toNat_and, BitVec.toNat_ofInt, h, Nat.and_two_pow_sub_one_eq_mod]
  show IntKind.i64.wrap ((BitVec.ofInt 64 n &&& BitVec.ofInt 64 7).toNat : Nat) = n % 8
  rw [key, IntKind.wrap_i64]
  omega

end Go.Proofs.YtonooelffokfkaaGreatDoor
