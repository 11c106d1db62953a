/-
  Contract of the document's Both. Conditions: that the lists' cells hold the spans, and that they are good.
-/
import Derived.Test.YtmkmejdbhikomaaSpBoth
import Derived.Deep.DeepCutAuto
import Derived.Deep.RegionLaw
import Derived.Deep.CutBlock
namespace Go.Proofs.Ytmkmejdbhikomaa
open Go.RowKit Plain
set_option linter.unusedVariables false

set_option maxRecDepth 100000 in
set_option maxHeartbeats 4000000 in
theorem both_any (v1 v2 : Value) (l m : List (Int × Int)) (kd : Int) (hkd : kd = 0 ∨ kd = 1 ∨ kd = 2 ∨ kd = 3) (w : World) (h1 : SpIn w v1 l) (h2 : SpIn w v2 m) (hl1 : l.length ≤ 1000) (hl2 : m.length ≤ 1000) (gl : G l) (gm : G m) :
    Calls Try.prog 27 #[v1, v2, .int .i64 kd] w fun e w' => ∃ u R, e = .returned u ∧ SpIn w' u R ∧ G R ∧ (∀ x, hs R x = kF kd (hs l x) (hs m x)) ∧ Kp w w' := by
  have hE := ends_any v1 v2 l m w h1 h2 hl1 hl2
  have HH1 : Hid (∀ w', Kp w w' → ∀ x, Calls Try.prog 13 #[v1, .int .i64 x] w' fun e w'' => e = .returned (.bool (hs l x)) ∧ Kp w' w'') := fun w' k x => rhas_any v1 l x w' (h1.kept k)
  have HH2 : Hid (∀ w', Kp w w' → ∀ x, Calls Try.prog 13 #[v2, .int .i64 x] w' fun e w'' => e = .returned (.bool (hs m x)) ∧ Kp w' w'') := fun w' k x => rhas_any v2 m x w' (h2.kept k)
  have HK : Hid (kd = 0 ∨ kd = 1 ∨ kd = 2 ∨ kd = 3) := hkd
  clear h1 h2 hkd
  go_enter Try.func27, Try.ntmps27
  go_wp2_with fail
  refine hE.mono ?_; rintro e w1 ⟨u, E, rfl, hu, hp, hm, hlE, k1⟩
  obtain ⟨a, g, cap, rfl, hnc, hcm, hag, hcell⟩ := hu
  have HE : Hid (Ed l m E.length (fun j => E.getD j 0)) := Ed.of gl gm hp hm
  have HC : Hid (∀ j, j < E.length → w1.cell? ⟨g, j, none⟩ = some (.int .i64 (E.getD j 0))) := hcell
  have K1 : Hid (Kp w w1) := k1
  obtain ⟨n, hn⟩ : ∃ n, n = E.length := ⟨_, rfl⟩
  obtain ⟨f, hf⟩ : ∃ f : Nat → Int, f = fun j => E.getD j 0 := ⟨_, rfl⟩
  rw [← hn, ← hf] at HE
  have HC2 : Hid (∀ j, j < n → w1.cell? ⟨g, j, none⟩ = some (.int .i64 (f j))) := fun j hj => by rw [hf]; exact HC.out j (by omega)
  rw [← hn] at hnc hag hlE ⊢
  clear hE hp hm hcell k1 HC hn hf gl gm
  go_wp2
  go_loopw [9, 8] (fun q v wr => ∃ i : Nat, ∃ J : List (Int × Int), (i + 1 ≤ n ∨ i = 0) ∧ q = .int .i64 i ∧ Hid (Own wr w1.heap.size 31 v J) ∧ Hid (0 < n → BI l m kd f i J) ∧ Hid (n = 0 → J = []) ∧ Kp w1 wr) (fun q _ _ => n - (intOf q).toNat)
  case atStart => exact ⟨0, [], .inr rfl, rfl, World.ownsRow_nil _ _ _ _, fun hn => BI.start HE.out hn kd, fun _ => rfl, Kp.refl w1⟩
  case round =>
    obtain ⟨i, J, hi, rfl, HO, HB, HZ, hK⟩ := hrel
    by_cases hlt : i + 1 < n
    · obtain rfl := hag (by omega)
      have c0 := hK.held (HC2.out i (by omega))
      have c1 := hK.held (HC2.out (i + 1) (by omega))
      have hB := HB.out (by omega)
      have HB2 : Hid (BI l m kd f i J) := hB
      have hJl : J.length ≤ 4000 := by have := hB.len; omega
      have hc1 := HH1.out wr (K1.out.trans hK) (f i)
      have HH3 : Hid (∀ w', Kp wr w' → Calls Try.prog 13 #[v2, .int .i64 (f i)] w' fun e w'' => e = .returned (.bool (hs m (f i))) ∧ Kp w' w'') := fun w' k => HH2.out w' ((K1.out.trans hK).trans k) (f i)
      have HS : Hid (kF kd (hs l (f i)) (hs m (f i)) = false → BI l m kd f (i + 1) J) := fun hh => BI.skip HE.out hlt hB hh
      have HA : Hid (kF kd (hs l (f i)) (hs m (f i)) = true → BI l m kd f (i + 1) (strL J (f i, f (i + 1)))) := fun hh => BI.add HE.out hlt hB hh
      have HLs : Hid (0 < J.length → (lastS J).2 ≤ f i) := fun hh => hB.last hh
      have HFl : Hid (f i < f (i + 1)) := HE.out.inc i (i + 1) (by omega) hlt
      obtain ⟨A, hA⟩ : ∃ A, A = hs l (f i) := ⟨_, rfl⟩
      obtain ⟨B, hB'⟩ : ∃ B, B = hs m (f i) := ⟨_, rfl⟩
      rw [← hA] at hc1 HS HA
      rw [← hB'] at HH3 HS HA
      obtain ⟨X, hX⟩ : ∃ X, X = f i := ⟨_, rfl⟩
      obtain ⟨Y, hY⟩ : ∃ Y, Y = f (i + 1) := ⟨_, rfl⟩
      rw [← hX] at c0 hc1 HH3 HA HLs HFl
      rw [← hY] at c1 HA HFl
      have i1 : ((i + 1 : Nat) : Int) = (i : Int) + 1 := by omega
      have i2 : ((i : Int) + 1).toNat = i + 1 := by omega
      have i4 : (i : Int) < (n : Int) := by omega
      have i5 : (i : Int) + 1 < (n : Int) := by omega
      have hi6 : i ≤ 4000 := by omega
      have hi7 : (0 : Int) ≤ (i : Int) + 1 := by omega
      clear hA hB' hX hY hB HB HZ
      go_wp2_with fail
      refine hc1.mono ?_; rintro e w2 ⟨rfl, k2⟩
      have d0 := k2.held c0
      have L2 : Hid (Kp wr w2) := k2
      clear hc1 k2
      go_wp2_with fail
      refine (HH3.out w2 L2.out).mono ?_; rintro e w3 ⟨rfl, k3⟩
      have L3 : Hid (Kp wr w3) := L2.out.trans k3
      clear HH3 k3 L2 d0
      go_upto_region 8 with fail
      go_cut [12] (fun v wx => v = .bool (A || B) ∧ wx = w3)
      case first =>
        cases A
        · go_wp2_with fail
          go_meet
          exact ⟨rfl, rfl⟩
        · go_wp2_with fail
          go_meet
          exact ⟨rfl, rfl⟩
      obtain ⟨rfl, hwc⟩ := hcut
      rw [hwc]
      clear hwc
      go_upto_block 2 with fail
      go_cut [12] (fun v wx => v = .bool (kF kd A B) ∧ wx = w3)
      case first =>
        rcases HK.out with rfl | rfl | rfl | rfl
        · go_wp2_with fail
          go_meet
          exact ⟨rfl, rfl⟩
        · cases A <;> (go_wp2_with fail; go_meet; exact ⟨rfl, rfl⟩)
        · cases A <;> (go_wp2_with fail; go_meet; exact ⟨rfl, rfl⟩)
        · cases B <;> (go_wp2_with fail; go_meet; exact ⟨rfl, rfl⟩)
      obtain ⟨rfl, hwc⟩ := hcut
      rw [hwc]
      clear hwc
      obtain ⟨D, hD⟩ : ∃ D, D = kF kd A B := ⟨_, rfl⟩
      rw [← hD] at HS HA ⊢
      clear hD
      have f0 := L3.out.held c0
      have f1 := L3.out.held c1
      have HOW := HO
      have K3 : Hid (Kp w1 w3) := hK.trans L3.out
      cases D with
      | false =>
        have HS2 : Hid (BI l m kd f (i + 1) J) := HS.out rfl
        clear HS HA c0 c1
        go_wp2
        go_roundw
        case rel => exact ⟨i + 1, J, by omega, by go_num, HO.out.kept L3.out, fun _ => HS2, (fun h => absurd h (by omega) : n = 0 → J = []), K3⟩
        case measure => simp [intOf]; omega
      | true =>
        have HA2 : Hid (BI l m kd f (i + 1) (strL J (X, Y))) := HA.out rfl
        clear HS HA c0 c1
        by_cases hJ0 : J.length = 0
        · obtain rfl : J = [] := List.eq_nil_of_length_eq_zero hJ0
          have HST : Hid (strL [] (X, Y) = [] ++ [(X, Y)]) := rfl
          obtain ⟨a3, p3, rfl⟩ : ∃ a3 p3, _ = Value.slice a3 0 p3 := by
            obtain ⟨a3, b3, o3, p3, e3, _⟩ := HO.out.sp
            exact ⟨a3, p3, e3⟩
          have i3 : decide ((0 : Int) < 0) = false := rfl
          go_wp2_with fail
          go_quiet (fail)
          obtain ⟨W, hW⟩ : ∃ W, W = w3.drewN nq := ⟨_, rfl⟩
          have kW : Kp w3 W := by rw [hW]; exact (Kp.refl w3).drewN _
          rw [← hW]
          have r0 := kW.held f0
          have r1 := kW.held f1
          have KW : Hid (Kp w1 W) := K3.out.trans kW
          have HOX : Hid (∀ W', Kp W W' → Own W' w1.heap.size 31 (.slice a3 0 p3) []) := fun W' k => (HO.out.kept (L3.out.trans kW)).kept k
          have hwr : IntKind.i64.wrap ((i : Int) + 1) = (i : Int) + 1 := by rw [IntKind.wrap_i64]; omega
          clear hW kW f0 f1 HO K3
          go_wp2_with fail
          go_region_law (refine step_append_sp (by rfl) (.tmp 90) (.tmp 101) 27 (by rfl) w1.heap.size 31 elt27 _ [] (by rfl) (HOX.out _ (by first | exact ((Kp.refl W).alloc _).drew | exact ((Kp.refl W).drew).alloc _)) _ [(X, Y)] (by rfl) (by first | exact (SpIn.lit2 W (X, Y) _ _ (by rfl)).kept ((Kp.refl _).drew) | exact SpIn.lit2 _ (X, Y) _ _ (by rfl)) (by first | (simp; done) | (simp; omega)) (by have := KW.out.size; simp; omega) ?_; intro u4 w4 ho4 hg4 hr4; have K4 : Hid (Kp w1 w4) := Kp.grown (by first | exact (KW.out.alloc _).drew | exact (KW.out.drew).alloc _) hg4 (fun q hq => own_lt (HOX.out W (Kp.refl W)) q hq); have HO4 : Hid (Own w4 w1.heap.size 31 u4 ([] ++ [(X, Y)])) := ho4; clear ho4 hg4 hr4)
          all_goals go_wp2
          all_goals go_roundw
          all_goals first
            | exact ⟨i + 1, [] ++ [(X, Y)], by omega, by go_num, HO4, (fun _ => HST.out ▸ HA2.out : 0 < n → BI l m kd f (i + 1) ([] ++ [(X, Y)])), (fun h => absurd h (by omega) : n = 0 → [] ++ [(X, Y)] = []), K4.out⟩
            | (simp [intOf]; omega)
        · obtain ⟨q, cap2, hq, hqb, hql, hqc, hqm, l0, l1, lz, lset⟩ := (HO.out.kept L3.out).last (by omega)
          subst hq
          unfold maxLen at hqm
          have hlX := HLs.out (by omega)
          obtain ⟨Z, hZ⟩ : ∃ Z, Z = (lastS J).2 := ⟨_, rfl⟩
          obtain ⟨Z1, hZ1⟩ : ∃ Z1, Z1 = (lastS J).1 := ⟨_, rfl⟩
          have HSE : Hid (strL J (X, Y) = if Z = X then J.set (J.length - 1) (Z1, Y) else J ++ [(X, Y)]) := by
            show strL J (X, Y) = _
            unfold strL
            rw [← hZ, ← hZ1]
            have hXY : X < Y := HFl.out
            by_cases e : Z = X
            · rw [if_neg (by show ¬ (J.length = 0 ∨ Z < X); omega), if_pos e, show max Z Y = Y by omega]
            · rw [if_pos (by show J.length = 0 ∨ Z < X; omega), if_neg e]
          have HSET : Hid (∀ W, Kp w3 W → (W.cell? ⟨q, (J.length - 1) * 2 + 1, none⟩ = some (.int .i64 Z) ∧ (∀ o, W.frozen? ⟨q, o, none⟩ = false)) ∧ Own (W.setCell ⟨q, (J.length - 1) * 2 + 1, none⟩ (.int .i64 Y)) w1.heap.size 31 (.slice (some ⟨q, 0, none⟩) J.length cap2) (J.set (J.length - 1) (Z1, Y))) := fun W k => by
            obtain ⟨g', cap', e, _, _, _, _, _, d1, dz, ds⟩ := ((HO.out.kept L3.out).kept k).last (by omega)
            simp only [Value.slice.injEq, Option.some.injEq, Addr.mk.injEq, and_true, true_and] at e
            obtain ⟨rfl, rfl⟩ := e
            rw [hZ, hZ1]
            exact ⟨⟨d1, dz⟩, (ds _).1⟩
          rw [← hZ] at l1 hlX
          have HLen : Hid ((J.set (J.length - 1) (Z1, Y)).length = J.length) := List.length_set
          obtain ⟨t, ht⟩ : ∃ t, t = J.length := ⟨_, rfl⟩
          have HTT : Hid (t = J.length) := ht
          have HO' := HO
          rw [← ht] at hJ0 hJl hqc l1 HSE HSET HO' ⊢
          clear hZ hZ1 l0 lz lset ht HO
          have j1 : ((t - 1 : Nat) : Int) = (t : Int) - 1 := by omega
          have j2 : ((t : Int) - 1).toNat = t - 1 := by omega
          have j3 : (0 : Int) < (t : Int) := by omega
          have j3b : decide ((0 : Int) < (t : Int)) = true := decide_eq_true j3
          have j3c : decide (0 < t) = true := decide_eq_true (by omega)
          have j3d : 0 < t := by omega
          have j4 : (t : Int) - 1 < (t : Int) := by omega
          have j5 : (0 : Int) ≤ (t : Int) - 1 := by omega
          by_cases hZX : Z = X
          · have HST : Hid (strL J (X, Y) = J.set (t - 1) (Z1, Y)) := by rw [HSE.out]; exact if_pos hZX
            have hbq : (Z == X) = true := beq_iff_eq.2 hZX
            clear HSE HO'
            go_wp2_with fail
            go_quiet (fail)
            obtain ⟨W, hW⟩ : ∃ W, W = w3.drewN nq := ⟨_, rfl⟩
            have kW : Kp w3 W := by rw [hW]; exact (Kp.refl w3).drewN _
            rw [← hW]
            have r0 := kW.held f0
            have r1 := kW.held f1
            obtain ⟨⟨z1, z2⟩, z3⟩ := HSET.out W kW
            have HO4 : Hid (Own (W.setCell ⟨q, (t - 1) * 2 + 1, none⟩ (.int .i64 Y)) w1.heap.size 31 (.slice (some ⟨q, 0, none⟩) t cap2) (J.set (t - 1) (Z1, Y))) := z3
            have K4 : Hid (Kp w1 (W.setCell ⟨q, (t - 1) * 2 + 1, none⟩ (.int .i64 Y))) := (K3.out.trans kW).setB hqb _
            clear hW kW f0 f1 K3 HSET z3 l1
            go_wp2
            go_roundw
            case rel => exact ⟨i + 1, J.set (t - 1) (Z1, Y), by omega, by go_num, HO4, (fun _ => HST.out ▸ HA2.out : 0 < n → BI l m kd f (i + 1) (J.set (t - 1) (Z1, Y))), (fun h => absurd h (by omega) : n = 0 → J.set (t - 1) (Z1, Y) = []), K4.out⟩
            case measure => simp [intOf]; omega
          · have HST : Hid (strL J (X, Y) = J ++ [(X, Y)]) := by rw [HSE.out]; exact if_neg hZX
            have hbq : (Z == X) = false := beq_eq_false_iff_ne.2 hZX
            have HO := HO'
            have hJl2 : J.length ≤ 4000 := by rw [← HTT.out]; exact hJl
            clear HSE HO' HSET
            go_wp2_with fail
            go_quiet (fail)
            obtain ⟨W, hW⟩ : ∃ W, W = w3.drewN nq := ⟨_, rfl⟩
            have kW : Kp w3 W := by rw [hW]; exact (Kp.refl w3).drewN _
            rw [← hW]
            have r0 := kW.held f0
            have r1 := kW.held f1
            have KW : Hid (Kp w1 W) := K3.out.trans kW
            have HOX : Hid (∀ W', Kp W W' → Own W' w1.heap.size 31 (.slice (some ⟨q, 0, none⟩) t cap2) J) := fun W' k => (HO.out.kept (L3.out.trans kW)).kept k
            have hwr : IntKind.i64.wrap ((i : Int) + 1) = (i : Int) + 1 := by rw [IntKind.wrap_i64]; omega
            clear hW kW f0 f1 HO K3
            go_wp2_with fail
            go_region_law (refine step_append_sp (by rfl) (.tmp 90) (.tmp 101) 27 (by rfl) w1.heap.size 31 elt27 _ J (by rfl) (HOX.out _ (by first | exact ((Kp.refl W).alloc _).drew | exact ((Kp.refl W).drew).alloc _)) _ [(X, Y)] (by rfl) (by first | exact (SpIn.lit2 W (X, Y) _ _ (by rfl)).kept ((Kp.refl _).drew) | exact SpIn.lit2 _ (X, Y) _ _ (by rfl)) (by first | (simp; done) | (simp; omega)) (by have := KW.out.size; simp; omega) ?_; intro u4 w4 ho4 hg4 hr4; have K4 : Hid (Kp w1 w4) := Kp.grown (by first | exact (KW.out.alloc _).drew | exact (KW.out.drew).alloc _) hg4 (fun q hq => own_lt (HOX.out W (Kp.refl W)) q hq); have HO4 : Hid (Own w4 w1.heap.size 31 u4 (J ++ [(X, Y)])) := ho4; clear ho4 hg4 hr4)
            all_goals go_wp2
            all_goals go_roundw
            all_goals first
              | exact ⟨i + 1, J ++ [(X, Y)], by omega, by go_num, HO4, (fun _ => HST.out ▸ HA2.out : 0 < n → BI l m kd f (i + 1) (J ++ [(X, Y)])), (fun h => absurd h (by omega) : n = 0 → J ++ [(X, Y)] = []), K4.out⟩
              | (simp [intOf]; omega)
    · go_wp2
      go_ret
      by_cases hn0 : n = 0
      · subst hn0
        have hJ : J = [] := HZ.out rfl
        have hOs := HO.out.sp
        rw [hJ] at hOs
        refine ⟨_, [], rfl, hOs, G.nil, fun x => ?_, K1.out.trans hK⟩
        rw [HE.out.empty (k := l) (fun p hp => .inl hp), HE.out.empty (k := m) (fun p hp => .inr hp), kF_none]; rfl
      · have hB := HB.out (by omega)
        rw [show i = n - 1 by omega] at hB
        obtain ⟨b1, b2⟩ := hB.done HE.out (by omega)
        exact ⟨_, J, rfl, HO.out.sp, b1, b2, K1.out.trans hK⟩

end Go.Proofs.Ytmkmejdbhikomaa
