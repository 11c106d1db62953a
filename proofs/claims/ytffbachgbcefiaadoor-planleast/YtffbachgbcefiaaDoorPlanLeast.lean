/-
  PlanLeast: for every input the law answers true, and its arguments read as before. Condition: that the names of the kinds read as they are listed.
-/
import Derived.Test.YtffbachgbcefiaaDoorRows
import Derived.Test.YtffbachgbcefiaaDoorCards
import Derived.Test.YtffbachgbcefiaaDoorTie
import Derived.Test.YtffbachgbcefiaaDoorPsArgs
import Derived.Test.YtffbachgbcefiaaDoorPsArgs
import Derived.WalkKit
import Derived.ProofKit
import Derived.OpenShut
import Derived.ShutString
import Derived.LaidMore
import Derived.SevenTiedAt
import Derived.Stop.Joined
import Derived.Deep.QuietTactic
import Derived.BigQuiet
import Derived.Deep.RegionWith
import Derived.Deep.RegionHeld3
import Derived.Deep.DeepCutAuto
import Derived.Deep.CutBlock
namespace Go.Proofs.YtffbachgbcefiaaDoor.planLeast
open Go.ChangeShapes Go.WideShapes Go.ChangeAt Go.RowKit
open Go.ChangeMaps (open_string shut_string)
open Go.Proofs.YtffbachgbcefiaaDoor Plain
set_option linter.unusedSimpArgs false
set_option linter.unusedVariables false

theorem own : ownKnob Tryd.prog.godebug = none := by kernel_rfl
theorem laidOut : laidOutB Tryd.prog = true := by kernel_rfl
theorem qx_rh {w : World} {b : Nat} {s : PS} (h : Qx w b s) : w.rangeAt b 5 (w4 (wd s.h)).toList := fun j v hj => by
  have hj4 : j < 4 := (List.getElem?_eq_some_iff.1 hj).1
  have : (psA s).toList[5 + j]? = some v := by
    rw [Array.getElem?_toList, w4_at (wd s.h) j hj4] at hj
    rw [← hj]
    obtain rfl | rfl | rfl | rfl : j = 0 ∨ j = 1 ∨ j = 2 ∨ j = 3 := by omega
    · rfl
    · rfl
    · rfl
    · rfl
  have h2 := h.range (5 + j) v this
  rwa [Nat.zero_add] at h2
theorem least_none {s : PS} (h : Gp s) : emB (andF (rdW s (chW s)) s.l) = true := emB_of fun i hi => by
  unfold andF
  cases e : rdW s (chW s) i with
  | false => rfl
  | true => rw [rd_lost h ((wy_mem h _).1 (ch_mem h)).2 i hi e]; rfl
theorem least_have (s : PS) : emB (andF (rdW s 1) s.h) = true := emB_of fun i hi => by
  rw [rd1]; unfold andF lessF
  cases s.h i <;> simp
theorem least_known {s : PS} (h : Gp s) : emB (andF (rdW s 2) s.k) = true := emB_of fun i hi => by
  rw [rd2]
  unfold andF orF
  cases e : s.k i with
  | false => simp
  | true =>
    have h1 := h.kd i hi e
    have h2 : lessF s.y s.k i = false := by unfold lessF; rw [e]; simp
    have h3 : lessF (parF s.D) s.l i = false := by
      unfold lessF parF lessF
      rw [(up_iff s.D i).2 h1]; simp
    rw [h2, h3]; rfl
theorem least_q {s : PS} {j : Nat} (hj : j < (wyQ s).length) : cn 256 (rdW s (chW s)) ≤ cn 256 ((wyQ s).getD j (0, noF)).2 := by
  unfold wyQ at hj ⊢
  rw [List.length_map] at hj
  rw [List.getD_eq_getElem?_getD, List.getElem?_map, List.getElem?_eq_getElem hj]
  exact ch_le (List.getElem_mem hj)
set_option maxRecDepth 100000 in
set_option maxHeartbeats 8000000 in
theorem walk (w : World) (hN : Wn w) (a0 : RX) (w0 : a0.Ok) :
    Calls Tryd.prog 4 #[rxV a0] w fun e w' => e = .returned (.bool true) ∧ Kp w w' := by
  have hx := w0
  clear w0
  obtain ⟨wa, hwa⟩ : ∃ wa, wa = w.alloc (.cells (rxA a0) 24) := ⟨_, rfl⟩
  have ra : Rw wa w.heap.size a0 := by rw [hwa]; exact Rw.new w a0
  have ka : Kp w wa := by rw [hwa]; exact (Kp.refl w).alloc _
  have hG := lgood_any a0 hx wa
  have HW := hid hwa
  have HA := hid (And.intro ra ka)
  have hra := hid ra.range
  clear hwa ra ka hx
  go_enter Tryd.func4, Tryd.ntmps4
  go_upto_region 1 with fail
  change Code.wp _ _ _ _ (w.alloc (.cells (rxA a0) 24))
  rw [← show wa = w.alloc (.cells (rxA a0) 24) from HW.out]
  clear HW
  go_wp2_with (refine wl_xload rfl rfl rfl hra.out ?_)
  refine hG.mono ?_; rintro e wb ⟨x, rfl, hok, hgp, hd7, kb⟩
  obtain ⟨wc, hwc⟩ : ∃ V, V = wb.setCells w.heap.size 0 (rxA x).toList := ⟨_, rfl⟩
  have rc : Rw wc w.heap.size x := by rw [hwc]; exact (HA.out.1.kept kb).set x
  have kc : Kp w wc := by rw [hwc]; exact kp_setCells (HA.out.2.trans kb) _ _ (Nat.le_refl _) _
  have hth := hid (there_of (cs := (rxA a0).toList) rfl (HA.out.1.kept kb).range (HA.out.1.kept kb).z)
  have hSt := states_any x hok wc
  have HW := hid hwc
  have hrc := hid rc.range
  have HC := hid kc
  obtain ⟨s, hs⟩ : ∃ s, s = x.ps := ⟨_, rfl⟩
  rw [← hs] at hgp hSt
  have HGP := hid hgp
  clear hG kb hwc rc kc HA hra hok hs hd7 hgp
  go_wp2_with (first
    | (refine wl_xstore rfl rfl rfl rfl rfl hth.out ?_; rw [← show wc = wb.setCells w.heap.size 0 (rxA x).toList from HW.out])
    | (refine wl_xload rfl rfl rfl hrc.out ?_))
  refine hSt.mono ?_; rintro e w3 ⟨rfl, k3⟩
  obtain ⟨b3, hb3⟩ : ∃ b, b = w3.heap.size := ⟨_, rfl⟩
  obtain ⟨w4, hw4⟩ : ∃ V, V = w3.alloc (.cells (psA z17) 30) := ⟨_, rfl⟩
  have s4 : w4.heap.size = b3 + 1 := by rw [hw4, hb3]; simp
  obtain ⟨w5, hw5⟩ : ∃ V, V = w4.alloc (.cells (rsA 0 noF noF noF noF false) 33) := ⟨_, rfl⟩
  have q5 : Qx w5 b3 z17 := by
    have := Qx.new w3 z17
    rw [← hw4, ← hb3] at this
    rw [hw5]
    exact this.kept ((Kp.refl _).alloc _)
  have d5 : Rb w5 (b3 + 1) 0 noF noF noF noF false := by
    have := Rb.new w4 0 noF noF noF noF false
    rw [← hw5, s4] at this
    exact this
  have hb3w : w.heap.size ≤ b3 := by rw [hb3]; exact (HC.out.trans k3).size
  have k5 : Kp w w5 := by rw [hw5, hw4]; exact ((HC.out.trans k3).alloc _).alloc _
  obtain ⟨w6, hw6⟩ : ∃ V, V = w5.setCells b3 0 (psA s).toList := ⟨_, rfl⟩
  have q6 : Qx w6 b3 s := by rw [hw6]; exact q5.set s
  have d6 : Rb w6 (b3 + 1) 0 noF noF noF noF false := by rw [hw6]; exact d5.far (by omega) _ _
  have k6 : Kp w w6 := by rw [hw6]; exact kp_setCells k5 _ _ hb3w _
  obtain ⟨w7, hw7⟩ : ∃ V, V = w6.setCells (b3 + 1) 0 (rsL x.D (bt x.y) (bt x.h) (bt x.k) (bt x.l) (rxO x)) := ⟨_, rfl⟩
  have q7 : Qx w7 b3 s := by rw [hw7]; exact q6.far (by omega) _ _
  have k7 : Kp w w7 := by rw [hw7]; exact kp_setCells k6 _ _ (by omega) _
  have HW2 := hid (And.intro hb3 (And.intro hw4 (And.intro s4 (And.intro hw5 (And.intro hw6 hw7)))))
  have HT := hid (And.intro q5.there d6.there)
  have H7 := hid (And.intro q7 k7)
  have hr7 := hid q7.range
  have hz := zero_rs
  have hy := zero_ps
  have hC := choose_any s w7
  have he : wyE s = 0 := by unfold wyE; rw [if_pos ((gd_iff s).2 HGP.out)]
  have hp : chP s = (chW s, rdW s (chW s)) := by unfold chP; rw [if_pos ((gd_iff s).2 HGP.out)]
  rw [he, hp] at hC
  obtain ⟨k0, hk0⟩ : ∃ k, k = chW s := ⟨_, rfl⟩
  obtain ⟨R, hR⟩ : ∃ R, R = rdW s (chW s) := ⟨_, rfl⟩
  rw [← hR, ← hk0] at hC
  have HP := hid (And.intro hk0 (And.intro hR he))
  clear hSt k3 hb3 hw4 s4 hw5 q5 d5 k5 hw6 q6 d6 k6 hw7 q7 k7 HW hrc HC hth he hp hk0 hR hb3w
  go_wp2_with (first
    | (change wpList _ _ _ _ _ ((w3.alloc (.cells (psA z17) 30)).alloc (.cells (rsA 0 noF noF noF noF false) 33)); rw [← show w4 = w3.alloc (.cells (psA z17) 30) from HW2.out.2.1, ← show w5 = w4.alloc (.cells (rsA 0 noF noF noF noF false) 33) from HW2.out.2.2.2.1, ← show b3 = w3.heap.size from HW2.out.1]; refine wl_qstore (s := s) rfl rfl rfl rfl rfl HT.out.1 ?_; rw [← show w6 = w5.setCells b3 0 (psA s).toList from HW2.out.2.2.2.2.1])
    | (refine wl_rsstore rfl rfl rfl rfl rfl HT.out.2 ?_; rw [← show w7 = w6.setCells (b3 + 1) 0 (rsL x.D (bt x.y) (bt x.h) (bt x.k) (bt x.l) (rxO x)) from HW2.out.2.2.2.2.2])
    | (refine wl_qload rfl rfl rfl hr7.out ?_))
  refine hC.mono ?_; rintro e w8 ⟨rfl, k8⟩
  obtain ⟨b5, hb5⟩ : ∃ b, b = w8.heap.size := ⟨_, rfl⟩
  obtain ⟨w9, hw9⟩ : ∃ V, V = w8.alloc (.cells (pA pZp) 45) := ⟨_, rfl⟩
  have p9 : Px w9 b5 pZp := by rw [hw9, hb5]; exact Px.new w8 _
  obtain ⟨w10, hw10⟩ : ∃ V, V = w9.setCells b5 0 (pA (k0, R)).toList := ⟨_, rfl⟩
  have p10 : Px w10 b5 (k0, R) := by rw [hw10]; exact p9.set _
  have k10 : Kp w8 w10 := by rw [hw10, hw9]; exact kp_setCells ((Kp.refl _).alloc _) _ _ (by rw [hb5]; exact Nat.le_refl _) _
  have q10 : Qx w10 b3 s := (H7.out.1.kept k8).kept k10
  have kw10 : Kp w w10 := (H7.out.2.trans k8).trans k10
  have HW3 := hid (And.intro hb5 (And.intro hw9 (And.intro hw10 p9.there)))
  have H10 := hid (And.intro p10 (And.intro q10 kw10))
  have hr10 := hid q10.range
  have hWy := ways_any s w10
  rw [HP.out.2.2] at hWy
  have hzp : ∀ W, (zeroValue 45).run Tryd.prog W = .ok (pV pZp) W := fun W => by
    obtain ⟨i, hi, hz0, _⟩ := info_parts pinfo
    rw [pZ_is] at hz0
    simp [zeroValue, typeInfo, hi, hz0]
  clear hC k8 hb5 hw9 p9 hw10 p10 k10 q10 kw10 H7 hr7 HW2 HT hz hy
  go_wp2_with (first
    | (change wpList _ _ _ _ _ (w8.alloc (.cells (pA pZp) 45)); rw [← show w9 = w8.alloc (.cells (pA pZp) 45) from HW3.out.2.1, ← show b5 = w8.heap.size from HW3.out.1]; refine wl_pstore rfl rfl rfl (p := (k0, R)) rfl rfl HW3.out.2.2.2 ?_; rw [← show w10 = w9.setCells b5 0 (pA (k0, R)).toList from HW3.out.2.2.1])
    | (refine wl_qload rfl rfl rfl hr10.out ?_))
  refine hWy.mono ?_; rintro e w11 ⟨v, rfl, hv, k11⟩
  obtain ⟨pp, cc, g, rfl, hc1, hc2, hpp, hrr⟩ := hv.cells
  have hlen : 0 < (wyQ s).length := by unfold wyQ; rw [List.length_map]; exact wy_pos HGP.out
  have hl4 : (wyQ s).length ≤ 4 := by unfold wyQ; rw [List.length_map]; exact wy_len s
  obtain rfl := hpp hlen
  have H11 := hid (And.intro (H10.out.1.kept k11) (And.intro (H10.out.2.1.kept k11) (H10.out.2.2.trans k11)))
  have HL := hid (And.intro hrr (And.intro hc1 (And.intro hc2 (And.intro hlen hl4))))
  have hWk := wakes_any w11 (hN.kp H11.out.2.2)
  clear hWy hv k11 H10 hr10 HW3 hzp hrr hc1 hc2 hlen hl4 hpp
  go_wp2_with fail
  refine hWk.mono ?_; rintro e w12 ⟨rfl, k12⟩
  have H12 := hid (And.intro (H11.out.1.kept k12) (And.intro (H11.out.2.1.kept k12) (H11.out.2.2.trans k12)))
  have HK := hid k12
  have c1 := H12.out.1.range 1 _ rfl
  have c2 := H12.out.1.range 2 _ rfl
  have c3 := H12.out.1.range 3 _ rfl
  have c4 := H12.out.1.range 4 _ rfl
  have d1 := H12.out.2.1.range 13 _ rfl
  have d2 := H12.out.2.1.range 14 _ rfl
  have d3 := H12.out.2.1.range 15 _ rfl
  have d4 := H12.out.2.1.range 16 _ rfl
  rw [Nat.zero_add] at c1 c2 c3 c4 d1 d2 d3 d4
  have hAnd := and_any R s.l w12
  have hEm := empty_any (andF R s.l)
  rw [show emB (andF R s.l) = true by rw [HP.out.2.1]; exact least_none HGP.out] at hEm
  unfold SV at hAnd hEm
  clear hWk k12 H11
  go_wp2_with fail
  refine hAnd.mono ?_; rintro e w13 ⟨rfl, k13⟩
  have K13 := hid k13
  clear hAnd k13 c1 c2 c3 c4 d1 d2 d3 d4
  go_wp2_with fail
  refine (hEm _).mono ?_; rintro e w14 ⟨rfl, k14⟩
  have H14 := hid (And.intro (H12.out.1.kept (K13.out.trans k14)) (And.intro (H12.out.2.1.kept (K13.out.trans k14)) (H12.out.2.2.trans (K13.out.trans k14))))
  have HR := hid (fun i (hi : i < (wyQ s).length) => range_kept (HL.out.1 i hi) (HK.out.trans (K13.out.trans k14)))
  obtain ⟨n, hn⟩ : ∃ n, n = (wyQ s).length := ⟨_, rfl⟩
  have hn4 : n ≤ 4 := by rw [hn]; exact HL.out.2.2.2.2
  have hncc : n ≤ cc := by rw [hn]; exact HL.out.2.1
  have hcc := HL.out.2.2.1
  rw [← hn] at HR ⊢
  have HN := hid hn
  have hz : ∀ W, (zeroValue 45).run Tryd.prog W = .ok (pV pZp) W := fun W => by
    obtain ⟨i, hi, hz0, _⟩ := info_parts pinfo
    rw [pZ_is] at hz0
    simp [zeroValue, typeInfo, hi, hz0]
  clear hEm k14 K13 HK H12 HL hn
  go_wp2_with fail
  go_loopw [10, 49] (fun _ i wr => ∃ j : Nat, j ≤ n ∧ i = .int .i64 j ∧ Hid (Kp w14 wr)) (fun _ i _ => n - (intOf i).toNat)
  case atStart => exact ⟨0, by omega, by go_num, Kp.refl _⟩
  case round =>
    obtain ⟨j, hj, rfl, HQ⟩ := hrel
    rename World => wr
    by_cases hjn : j < n
    · have hji : (j : Int) < (n : Int) := by omega
      have hj0 : (0 : Int) ≤ (j : Int) := by omega
      obtain ⟨q, hq⟩ : ∃ q, q = (wyQ s).getD j (0, noF) := ⟨_, rfl⟩
      have hrg : Hid (wr.rangeAt g (j * 5) (pA q).toList) := by show wr.rangeAt _ _ _; rw [hq]; exact range_kept (HR.out j hjn) HQ.out
      have hcmp : ¬ ((cn 256 q.2 : Nat) : Int) < ((cn 256 R : Nat) : Int) := by
        have := least_q (s := s) (j := j) (by rw [← HN.out]; exact hjn)
        rw [← hq, ← HP.out.2.1] at this
        omega
      obtain ⟨b6, hb6⟩ : ∃ b, b = wr.heap.size := ⟨_, rfl⟩
      obtain ⟨y1, hy1⟩ : ∃ V, V = wr.alloc (.cells (pA pZp) 45) := ⟨_, rfl⟩
      have p1 : Px y1 b6 pZp := by rw [hy1, hb6]; exact Px.new wr _
      obtain ⟨y2, hy2⟩ : ∃ V, V = y1.setCells b6 0 (pA q).toList := ⟨_, rfl⟩
      have p2 : Px y2 b6 q := by rw [hy2]; exact p1.set _
      have kk : Kp wr y2 := by rw [hy2, hy1]; exact kp_setCells ((Kp.refl _).alloc _) _ _ (by rw [hb6]; exact Nat.le_refl _) _
      have HY := hid (And.intro hb6 (And.intro hy1 (And.intro hy2 p1.there)))
      have HF := hid (And.intro p2 (And.intro (H14.out.1.kept (HQ.out.trans kk)) (HQ.out.trans kk)))
      have HCM := hid hcmp
      clear hq hb6 hy1 p1 hy2 p2 kk hcmp HQ
      go_upto_region 10 with (first
        | (refine wl_pload rfl rfl rfl hrg.out ?_)
        | (change wpList _ _ _ _ _ (wr.alloc (.cells (pA pZp) 45)); rw [← show y1 = wr.alloc (.cells (pA pZp) 45) from HY.out.2.1, ← show b6 = wr.heap.size from HY.out.1]; refine wl_pstore rfl rfl rfl (p := q) rfl rfl HY.out.2.2.2 ?_; rw [← show y2 = y1.setCells b6 0 (pA q).toList from HY.out.2.2.1]))
      have hcmp := HCM.out
      have h1 : Kp y2 y2.drew := (Kp.refl y2).drew
      clear HY hrg HCM
      refine wp_region_held_drew (S := fun X => Kp y2 X) (by kernel_rfl) (h1) (fun hHeld => ?_)
      change wpAnyH _ _ _ _ _ 7 #[false, false, false, false, false, false, false] _ _
      refine wpAnyH_takeD (i := 0) (oi := _) (v := ?_) 53 rfl (by rfl) (by kernel_rfl) (by kernel_rfl) (by kernel_rfl) (fun _ _ _ h => h) (.inl ⟨by rfl, ?_⟩) (by assumption) ?_
      rotate_left; ((intro w hSw; (try dsimp only at hSw); go_simp); first | done | with_reducible rfl)
      try simp only [Act.put, List.setIfInBounds_toArray, List.set_cons_zero, List.set_cons_succ]
      change wpAnyH _ _ _ _ _ 6 #[true, false, false, false, false, false, false] _ _
      refine wpAnyH_takeD (i := 1) (oi := _) (v := _) 54 rfl (by rfl) (by kernel_rfl) (by kernel_rfl) (by kernel_rfl) (fun _ _ _ h => h) (yl_set (f := q.2) (by rfl) (by rfl) (by rfl) (fun X h => (HF.out.1.kept h).reads)) (by assumption) ?_
      try simp only [Act.put, List.setIfInBounds_toArray, List.set_cons_zero, List.set_cons_succ]
      change wpAnyH _ _ _ _ _ 5 #[true, true, false, false, false, false, false] _ _
      refine wpAnyH_takeD (i := 3) (oi := _) (v := ?_) 56 rfl (by rfl) (by kernel_rfl) (by kernel_rfl) (by kernel_rfl) (fun _ _ _ h => h) (.inl ⟨by rfl, ?_⟩) (by assumption) ?_
      rotate_left; ((intro w hSw; (try dsimp only at hSw); go_simp); first | done | with_reducible rfl)
      try simp only [Act.put, List.setIfInBounds_toArray, List.set_cons_zero, List.set_cons_succ]
      change wpAnyH _ _ _ _ _ 4 #[true, true, false, true, false, false, false] _ _
      refine wpAnyH_takeD (i := 4) (oi := _) (v := _) 57 rfl (by rfl) (by kernel_rfl) (by kernel_rfl) (by kernel_rfl) (fun _ _ _ h => h) (yl_set (f := R) (by rfl) (by rfl) (by rfl) (fun X h => (HF.out.2.1.kept h).reads)) (by assumption) ?_
      try simp only [Act.put, List.setIfInBounds_toArray, List.set_cons_zero, List.set_cons_succ]
      change wpAnyH _ _ _ _ _ 3 #[true, true, false, true, true, false, false] _ _
      refine wpAnyH_ready (rs := [2]) (by kernel_rfl) (by simp) ?_
      refine AllReadyH.cons (o := _) rfl ?_ ?_
      rotate_left; exact AllReadyH.nil
      intro K hK
      go_simp
      go_at_call 17
      refine (count_any q.2 _).mono ?_; rintro e X1 ⟨rfl, p1⟩
      have k1 := h1.kept p1
      refine hK.out _ _ (k1) (fun hHeld => ?_)
      clear hK K
      try simp only [Act.put, List.setIfInBounds_toArray, List.set_cons_zero, List.set_cons_succ]
      change wpAnyH _ _ _ _ _ 2 #[true, true, true, true, true, false, false] _ _
      refine wpAnyH_ready (rs := [5]) (by kernel_rfl) (by simp) ?_
      refine AllReadyH.cons (o := _) rfl ?_ ?_
      rotate_left; exact AllReadyH.nil
      intro K hK
      go_simp
      go_at_call 17
      refine (count_any R _).mono ?_; rintro e X2 ⟨rfl, p2⟩
      have k2 := k1.kept p2
      refine hK.out _ _ (k2) (fun hHeld => ?_)
      clear hK K
      try simp only [Act.put, List.setIfInBounds_toArray, List.set_cons_zero, List.set_cons_succ]
      change wpAnyH _ _ _ _ _ 1 #[true, true, true, true, true, true, false] _ _
      refine wpAnyH_takeD (i := 6) (oi := _) (v := ?_) 59 rfl (by rfl) (by kernel_rfl) (by kernel_rfl) (by kernel_rfl) (fun _ _ _ h => h) (.inl ⟨by rfl, ?_⟩) (by assumption) ?_
      rotate_left; ((intro w hSw; (try dsimp only at hSw); go_simp); first | done | with_reducible rfl)
      try simp only [Act.put, List.setIfInBounds_toArray, List.set_cons_zero, List.set_cons_succ]
      change wpAnyH _ _ _ _ _ 0 #[true, true, true, true, true, true, true] _ _
      refine wpAnyH_done (by kernel_rfl) ?_ _
      have HN2 := hid (HF.out.2.2.trans k2)
      clear hcmp k2 h1 HF
      go_wp2
      go_roundw
      case rel => exact ⟨j + 1, by omega, by go_num, HN2⟩
      case measure => simp [intOf]; omega
    · obtain rfl : j = n := by omega
      have H15 := hid (And.intro (H14.out.1.kept HQ.out) (And.intro (H14.out.2.1.kept HQ.out) (H14.out.2.2.trans HQ.out)))
      clear H14 HR HQ hz
      have hk4 : k0 < 4 := by rw [HP.out.1]; exact wy_lt (ch_mem HGP.out)
      obtain rfl | rfl | rfl | rfl : k0 = 0 ∨ k0 = 1 ∨ k0 = 2 ∨ k0 = 3 := by omega
      · have HQQ : Hid (eqB s.h (upF s.D) = true) := by
          show eqB s.h (upF s.D) = _
          exact (ch_full HGP.out).1 HP.out.1.symm
        have c0 := H15.out.1.range 0 _ rfl
        have c1 := H15.out.1.range 1 _ rfl
        have c2 := H15.out.1.range 2 _ rfl
        have c3 := H15.out.1.range 3 _ rfl
        have c4 := H15.out.1.range 4 _ rfl
        have d5 := H15.out.2.1.range 5 _ rfl
        have d6 := H15.out.2.1.range 6 _ rfl
        have d7 := H15.out.2.1.range 7 _ rfl
        have d8 := H15.out.2.1.range 8 _ rfl
        have d9 := H15.out.2.1.range 9 _ rfl
        have d10 := H15.out.2.1.range 10 _ rfl
        have d11 := H15.out.2.1.range 11 _ rfl
        have d12 := H15.out.2.1.range 12 _ rfl
        rw [Nat.zero_add] at c0 c1 c2 c3 c4 d5 d6 d7 d8 d9 d10 d11 d12
        go_upto_region 15 with fail
        clear c0 c1 c2 c3 c4 d5 d6 d7 d8 d9 d10 d11 d12
        have heq := eq_bin s.h (upF s.D)
        rw [show eqB s.h (upF s.D) = true from HQQ.out] at heq
        have heg := eq_guard s.h (upF s.D)
        have hEm := empty_any R
        rw [show emB R = true by rw [HP.out.2.1, ← HP.out.1, rd0]; exact emB_of (fun i _ => rfl)] at hEm
        have h1 : Kp wr wr.drew := (Kp.refl wr).drew
        refine wp_region_held_drew (S := fun X => Kp wr X) (by kernel_rfl) (h1) (fun hHeld => ?_)
        change wpAnyH _ _ _ _ _ 21 #[false, false, false, false, false, false, false, false, false, false, false, false, false, false, false, false, false, false, false, false, false] _ _
        refine wpAnyH_takeD (i := 0) (oi := _) (v := ?_) 87 rfl (by rfl) (by kernel_rfl) (by kernel_rfl) (by kernel_rfl) (fun _ _ _ h => h) (.inl ⟨by rfl, ?_⟩) (by assumption) ?_
        rotate_left; ((intro w hSw; (try dsimp only at hSw); go_simp); first | done | with_reducible rfl)
        try simp only [Act.put, List.setIfInBounds_toArray, List.set_cons_zero, List.set_cons_succ]
        change wpAnyH _ _ _ _ _ 20 #[true, false, false, false, false, false, false, false, false, false, false, false, false, false, false, false, false, false, false, false, false] _ _
        refine wpAnyH_takeD (i := 1) (oi := _) (v := _) 88 rfl (by rfl) (by kernel_rfl) (by kernel_rfl) (by kernel_rfl) (fun _ _ _ h => h) (yl_kind (p := (0, R)) (by rfl) (by rfl) (by rfl) (fun X h => H15.out.1.kept h)) (by assumption) ?_
        try simp only [Act.put, List.setIfInBounds_toArray, List.set_cons_zero, List.set_cons_succ]
        change wpAnyH _ _ _ _ _ 19 #[true, true, false, false, false, false, false, false, false, false, false, false, false, false, false, false, false, false, false, false, false] _ _
        refine wpAnyH_takeD (i := 2) (oi := _) (v := ?_) 89 rfl (by rfl) (by kernel_rfl) (by kernel_rfl) (by kernel_rfl) (fun _ _ _ h => h) (.inl ⟨by rfl, ?_⟩) (by assumption) ?_
        rotate_left; ((intro w hSw; (try dsimp only at hSw); go_simp); first | done | with_reducible rfl)
        try simp only [Act.put, List.setIfInBounds_toArray, List.set_cons_zero, List.set_cons_succ]
        change wpAnyH _ _ _ _ _ 18 #[true, true, true, false, false, false, false, false, false, false, false, false, false, false, false, false, false, false, false, false, false] _ _
        refine wpAnyH_takeD (i := 3) (oi := _) (v := ?_) 90 rfl (by rfl) (by kernel_rfl) (by kernel_rfl) (by kernel_rfl) (fun _ _ _ h => h) (.inl ⟨by rfl, ?_⟩) (by assumption) ?_
        rotate_left; ((intro w hSw; (try dsimp only at hSw); go_simp); first | done | with_reducible rfl)
        try simp only [Act.put, List.setIfInBounds_toArray, List.set_cons_zero, List.set_cons_succ]
        change wpAnyH _ _ _ _ _ 17 #[true, true, true, true, false, false, false, false, false, false, false, false, false, false, false, false, false, false, false, false, false] _ _
        refine wpAnyH_takeD (i := 4) (oi := _) (v := _) 91 rfl (by rfl) (by kernel_rfl) (by kernel_rfl) (by kernel_rfl) (fun _ _ _ h => h) (yl_set (f := s.h) (by rfl) (by rfl) (by rfl) (fun X h => qx_rh (H15.out.2.1.kept h))) (by assumption) ?_
        try simp only [Act.put, List.setIfInBounds_toArray, List.set_cons_zero, List.set_cons_succ]
        change wpAnyH _ _ _ _ _ 16 #[true, true, true, true, true, false, false, false, false, false, false, false, false, false, false, false, false, false, false, false, false] _ _
        refine wpAnyH_takeD (i := 5) (oi := _) (v := ?_) 92 rfl (by rfl) (by kernel_rfl) (by kernel_rfl) (by kernel_rfl) (fun _ _ _ h => h) (.inl ⟨by rfl, ?_⟩) (by assumption) ?_
        rotate_left; ((intro w hSw; (try dsimp only at hSw); go_simp); first | done | with_reducible rfl)
        try simp only [Act.put, List.setIfInBounds_toArray, List.set_cons_zero, List.set_cons_succ]
        change wpAnyH _ _ _ _ _ 15 #[true, true, true, true, true, true, false, false, false, false, false, false, false, false, false, false, false, false, false, false, false] _ _
        refine wpAnyH_takeD (i := 6) (oi := _) (v := _) 93 rfl (by rfl) (by kernel_rfl) (by kernel_rfl) (by kernel_rfl) (fun _ _ _ h => h) (yl_int (n := s.D) (by rfl) (by rfl) (by rfl) (fun X h => by have := (H15.out.2.1.kept h).range 0 _ rfl; rwa [Nat.zero_add] at this)) (by assumption) ?_
        try simp only [Act.put, List.setIfInBounds_toArray, List.set_cons_zero, List.set_cons_succ]
        change wpAnyH _ _ _ _ _ 14 #[true, true, true, true, true, true, true, false, false, false, false, false, false, false, false, false, false, false, false, false, false] _ _
        refine wpAnyH_ready (rs := [7]) (by kernel_rfl) (by simp) ?_
        refine AllReadyH.cons (o := _) rfl ?_ ?_
        rotate_left; exact AllReadyH.nil
        intro K hK
        go_simp
        go_at_call 18
        refine (upto_any s.D (by have := HGP.out.d2; omega) _).mono ?_; rintro e X1 ⟨rfl, p1⟩
        have k1 := h1.kept p1
        refine hK.out _ _ (k1) (fun hHeld => ?_)
        clear hK K
        try simp only [Act.put, List.setIfInBounds_toArray, List.set_cons_zero, List.set_cons_succ]
        change wpAnyH _ _ _ _ _ 13 #[true, true, true, true, true, true, true, true, false, false, false, false, false, false, false, false, false, false, false, false, false] _ _
        refine wpAnyH_takeD (i := 8) (oi := _) (v := ?_) 95 rfl (by rfl) (by kernel_rfl) (by kernel_rfl) (by kernel_rfl) (fun _ _ _ h => h) (.inl ⟨by rfl, ?_⟩) (by assumption) ?_
        rotate_left; ((intro w hSw; (try dsimp only at hSw); go_simp); first | done | with_reducible rfl)
        try simp only [Act.put, List.setIfInBounds_toArray, List.set_cons_zero, List.set_cons_succ]
        change wpAnyH _ _ _ _ _ 12 #[true, true, true, true, true, true, true, true, true, false, false, false, false, false, false, false, false, false, false, false, false] _ _
        refine wpAnyH_takeD (i := 9) (oi := _) (v := ?_) 96 rfl (by rfl) (by kernel_rfl) (by kernel_rfl) (by kernel_rfl) (fun _ _ _ h => h) (.inl ⟨by rfl, ?_⟩) (by assumption) ?_
        rotate_left; ((intro w hSw; (try dsimp only at hSw); go_simp); first | done | with_reducible rfl)
        try simp only [Act.put, List.setIfInBounds_toArray, List.set_cons_zero, List.set_cons_succ]
        change wpAnyH _ _ _ _ _ 11 #[true, true, true, true, true, true, true, true, true, true, false, false, false, false, false, false, false, false, false, false, false] _ _
        refine wpAnyH_takeD (i := 10) (oi := _) (v := ?_) 97 rfl (by rfl) (by kernel_rfl) (by kernel_rfl) (by kernel_rfl) (fun _ _ _ h => h) (.inl ⟨by rfl, ?_⟩) (by assumption) ?_
        rotate_left; ((intro w hSw; (try dsimp only at hSw); go_simp); first | done | with_reducible rfl)
        try simp only [Act.put, List.setIfInBounds_toArray, List.set_cons_zero, List.set_cons_succ]
        change wpAnyH _ _ _ _ _ 10 #[true, true, true, true, true, true, true, true, true, true, true, false, false, false, false, false, false, false, false, false, false] _ _
        refine wpAnyH_takeD (i := 11) (oi := _) (v := ?_) 98 rfl (by rfl) (by kernel_rfl) (by kernel_rfl) (by kernel_rfl) (fun _ _ _ h => h) (.inl ⟨by rfl, ?_⟩) (by assumption) ?_
        rotate_left; ((intro w hSw; (try dsimp only at hSw); go_simp); first | done | with_reducible rfl)
        try simp only [Act.put, List.setIfInBounds_toArray, List.set_cons_zero, List.set_cons_succ]
        change wpAnyH _ _ _ _ _ 9 #[true, true, true, true, true, true, true, true, true, true, true, true, false, false, false, false, false, false, false, false, false] _ _
        refine wpAnyH_takeD (i := 12) (oi := _) (v := _) 99 rfl (by rfl) (by kernel_rfl) (by kernel_rfl) (by kernel_rfl) (fun _ _ _ h => h) (yl_kind (p := (0, R)) (by rfl) (by rfl) (by rfl) (fun X h => H15.out.1.kept h)) (by assumption) ?_
        try simp only [Act.put, List.setIfInBounds_toArray, List.set_cons_zero, List.set_cons_succ]
        change wpAnyH _ _ _ _ _ 8 #[true, true, true, true, true, true, true, true, true, true, true, true, true, false, false, false, false, false, false, false, false] _ _
        refine wpAnyH_takeD (i := 13) (oi := _) (v := ?_) 100 rfl (by rfl) (by kernel_rfl) (by kernel_rfl) (by kernel_rfl) (fun _ _ _ h => h) (.inl ⟨by rfl, ?_⟩) (by assumption) ?_
        rotate_left; ((intro w hSw; (try dsimp only at hSw); go_simp); first | done | with_reducible rfl)
        try simp only [Act.put, List.setIfInBounds_toArray, List.set_cons_zero, List.set_cons_succ]
        change wpAnyH _ _ _ _ _ 7 #[true, true, true, true, true, true, true, true, true, true, true, true, true, true, false, false, false, false, false, false, false] _ _
        refine wpAnyH_takeD (i := 14) (oi := _) (v := ?_) 101 rfl (by rfl) (by kernel_rfl) (by kernel_rfl) (by kernel_rfl) (fun _ _ _ h => h) (.inl ⟨by rfl, ?_⟩) (by assumption) ?_
        rotate_left; ((intro w hSw; (try dsimp only at hSw); go_simp); first | done | with_reducible rfl)
        try simp only [Act.put, List.setIfInBounds_toArray, List.set_cons_zero, List.set_cons_succ]
        change wpAnyH _ _ _ _ _ 6 #[true, true, true, true, true, true, true, true, true, true, true, true, true, true, true, false, false, false, false, false, false] _ _
        refine wpAnyH_takeD (i := 15) (oi := _) (v := ?_) 102 rfl (by rfl) (by kernel_rfl) (by kernel_rfl) (by kernel_rfl) (fun _ _ _ h => h) (.inl ⟨by rfl, ?_⟩) (by assumption) ?_
        rotate_left; ((intro w hSw; (try dsimp only at hSw); go_simp); first | done | with_reducible rfl)
        try simp only [Act.put, List.setIfInBounds_toArray, List.set_cons_zero, List.set_cons_succ]
        change wpAnyH _ _ _ _ _ 5 #[true, true, true, true, true, true, true, true, true, true, true, true, true, true, true, true, false, false, false, false, false] _ _
        refine wpAnyH_takeD (i := 16) (oi := _) (v := _) 103 rfl (by rfl) (by kernel_rfl) (by kernel_rfl) (by kernel_rfl) (fun _ _ _ h => h) (yl_set (f := R) (by rfl) (by rfl) (by rfl) (fun X h => (H15.out.1.kept h).reads)) (by assumption) ?_
        try simp only [Act.put, List.setIfInBounds_toArray, List.set_cons_zero, List.set_cons_succ]
        change wpAnyH _ _ _ _ _ 4 #[true, true, true, true, true, true, true, true, true, true, true, true, true, true, true, true, true, false, false, false, false] _ _
        refine wpAnyH_ready (rs := [17]) (by kernel_rfl) (by simp) ?_
        refine AllReadyH.cons (o := _) rfl ?_ ?_
        rotate_left; exact AllReadyH.nil
        intro K hK
        go_simp
        go_at_call 16
        refine (hEm _).mono ?_; rintro e X2 ⟨rfl, p2⟩
        have k2 := k1.kept p2
        refine hK.out _ _ (k2) (fun hHeld => ?_)
        clear hK K
        try simp only [Act.put, List.setIfInBounds_toArray, List.set_cons_zero, List.set_cons_succ]
        change wpAnyH _ _ _ _ _ 3 #[true, true, true, true, true, true, true, true, true, true, true, true, true, true, true, true, true, true, false, false, false] _ _
        refine wpAnyH_takeD (i := 18) (oi := _) (v := ?_) 105 rfl (by rfl) (by kernel_rfl) (by kernel_rfl) (by kernel_rfl) (fun _ _ _ h => h) (.inl ⟨by rfl, ?_⟩) (by assumption) ?_
        rotate_left; ((intro w hSw; (try dsimp only at hSw); go_simp); first | done | with_reducible rfl)
        try simp only [Act.put, List.setIfInBounds_toArray, List.set_cons_zero, List.set_cons_succ]
        change wpAnyH _ _ _ _ _ 2 #[true, true, true, true, true, true, true, true, true, true, true, true, true, true, true, true, true, true, true, false, false] _ _
        refine wpAnyH_takeD (i := 19) (oi := _) (v := ?_) 106 rfl (by rfl) (by kernel_rfl) (by kernel_rfl) (by kernel_rfl) (fun _ _ _ h => h) (.inl ⟨by rfl, ?_⟩) (by assumption) ?_
        rotate_left; ((intro w hSw; (try dsimp only at hSw); go_simp); first | done | with_reducible rfl)
        try simp only [Act.put, List.setIfInBounds_toArray, List.set_cons_zero, List.set_cons_succ]
        change wpAnyH _ _ _ _ _ 1 #[true, true, true, true, true, true, true, true, true, true, true, true, true, true, true, true, true, true, true, true, false] _ _
        refine wpAnyH_takeD (i := 20) (oi := _) (v := ?_) 2 rfl (by rfl) (by kernel_rfl) (by kernel_rfl) (by kernel_rfl) (fun _ _ _ h => h) (.inl ⟨by rfl, ?_⟩) (by assumption) ?_
        rotate_left; ((intro w hSw; (try dsimp only at hSw); go_simp); first | done | with_reducible rfl)
        try simp only [Act.put, List.setIfInBounds_toArray, List.set_cons_zero, List.set_cons_succ]
        change wpAnyH _ _ _ _ _ 0 #[true, true, true, true, true, true, true, true, true, true, true, true, true, true, true, true, true, true, true, true, true] _ _
        refine wpAnyH_done (by kernel_rfl) ?_ _
        have e9 := H15.out.2.2.trans k2
        go_wp2
        go_ret
        exact ⟨rfl, e9⟩
      · have HQQ : Hid (eqB s.h (upF s.D) = false) := by
          show eqB s.h (upF s.D) = _
          cases e9 : eqB s.h (upF s.D) with
          | false => rfl
          | true =>
            have h8 := (ch_full HGP.out).2 (show mayW s 0 = true from e9)
            have h9 := HP.out.1
            omega
        have c0 := H15.out.1.range 0 _ rfl
        have c1 := H15.out.1.range 1 _ rfl
        have c2 := H15.out.1.range 2 _ rfl
        have c3 := H15.out.1.range 3 _ rfl
        have c4 := H15.out.1.range 4 _ rfl
        have d5 := H15.out.2.1.range 5 _ rfl
        have d6 := H15.out.2.1.range 6 _ rfl
        have d7 := H15.out.2.1.range 7 _ rfl
        have d8 := H15.out.2.1.range 8 _ rfl
        have d9 := H15.out.2.1.range 9 _ rfl
        have d10 := H15.out.2.1.range 10 _ rfl
        have d11 := H15.out.2.1.range 11 _ rfl
        have d12 := H15.out.2.1.range 12 _ rfl
        rw [Nat.zero_add] at c0 c1 c2 c3 c4 d5 d6 d7 d8 d9 d10 d11 d12
        have hAnd := and_any R s.h
        have hEm := empty_any (andF R s.h)
        rw [show emB (andF R s.h) = true by rw [HP.out.2.1, ← HP.out.1]; exact least_have s] at hEm
        unfold SV at hAnd hEm
        go_wp2_with fail
        refine (hAnd _).mono ?_; rintro e u3 ⟨rfl, m3⟩
        have HU3 := hid (And.intro (H15.out.1.kept m3) (And.intro (H15.out.2.1.kept m3) (H15.out.2.2.trans m3)))
        clear hAnd m3 c0 c1 c2 c3 c4 d5 d6 d7 d8 d9 d10 d11 d12 H15
        go_wp2_with fail
        refine (hEm _).mono ?_; rintro e u4 ⟨rfl, m4⟩
        have HU4 := hid (And.intro (HU3.out.1.kept m4) (And.intro (HU3.out.2.1.kept m4) (HU3.out.2.2.trans m4)))
        clear hEm m4 HU3
        have c0 := HU4.out.1.range 0 _ rfl
        have c1 := HU4.out.1.range 1 _ rfl
        have c2 := HU4.out.1.range 2 _ rfl
        have c3 := HU4.out.1.range 3 _ rfl
        have c4 := HU4.out.1.range 4 _ rfl
        have d5 := HU4.out.2.1.range 5 _ rfl
        have d6 := HU4.out.2.1.range 6 _ rfl
        have d7 := HU4.out.2.1.range 7 _ rfl
        have d8 := HU4.out.2.1.range 8 _ rfl
        have d9 := HU4.out.2.1.range 9 _ rfl
        have d10 := HU4.out.2.1.range 10 _ rfl
        have d11 := HU4.out.2.1.range 11 _ rfl
        have d12 := HU4.out.2.1.range 12 _ rfl
        rw [Nat.zero_add] at c0 c1 c2 c3 c4 d5 d6 d7 d8 d9 d10 d11 d12
        go_upto_region 15 with fail
        clear c0 c1 c2 c3 c4 d5 d6 d7 d8 d9 d10 d11 d12
        have heq := eq_bin s.h (upF s.D)
        rw [show eqB s.h (upF s.D) = false from HQQ.out] at heq
        have heg := eq_guard s.h (upF s.D)
        have h1 : Kp u4 u4.drew := (Kp.refl u4).drew
        refine wp_region_held_drew (S := fun X => Kp u4 X) (by kernel_rfl) (h1) (fun hHeld => ?_)
        change wpAnyH _ _ _ _ _ 21 #[false, false, false, false, false, false, false, false, false, false, false, false, false, false, false, false, false, false, false, false, false] _ _
        refine wpAnyH_takeD (i := 0) (oi := _) (v := ?_) 87 rfl (by rfl) (by kernel_rfl) (by kernel_rfl) (by kernel_rfl) (fun _ _ _ h => h) (.inl ⟨by rfl, ?_⟩) (by assumption) ?_
        rotate_left; ((intro w hSw; (try dsimp only at hSw); go_simp); first | done | with_reducible rfl)
        try simp only [Act.put, List.setIfInBounds_toArray, List.set_cons_zero, List.set_cons_succ]
        change wpAnyH _ _ _ _ _ 20 #[true, false, false, false, false, false, false, false, false, false, false, false, false, false, false, false, false, false, false, false, false] _ _
        refine wpAnyH_takeD (i := 1) (oi := _) (v := _) 88 rfl (by rfl) (by kernel_rfl) (by kernel_rfl) (by kernel_rfl) (fun _ _ _ h => h) (yl_kind (p := (1, R)) (by rfl) (by rfl) (by rfl) (fun X h => HU4.out.1.kept h)) (by assumption) ?_
        try simp only [Act.put, List.setIfInBounds_toArray, List.set_cons_zero, List.set_cons_succ]
        change wpAnyH _ _ _ _ _ 19 #[true, true, false, false, false, false, false, false, false, false, false, false, false, false, false, false, false, false, false, false, false] _ _
        refine wpAnyH_takeD (i := 2) (oi := _) (v := ?_) 89 rfl (by rfl) (by kernel_rfl) (by kernel_rfl) (by kernel_rfl) (fun _ _ _ h => h) (.inl ⟨by rfl, ?_⟩) (by assumption) ?_
        rotate_left; ((intro w hSw; (try dsimp only at hSw); go_simp); first | done | with_reducible rfl)
        try simp only [Act.put, List.setIfInBounds_toArray, List.set_cons_zero, List.set_cons_succ]
        change wpAnyH _ _ _ _ _ 18 #[true, true, true, false, false, false, false, false, false, false, false, false, false, false, false, false, false, false, false, false, false] _ _
        refine wpAnyH_takeD (i := 3) (oi := _) (v := ?_) 90 rfl (by rfl) (by kernel_rfl) (by kernel_rfl) (by kernel_rfl) (fun _ _ _ h => h) (.inl ⟨by rfl, ?_⟩) (by assumption) ?_
        rotate_left; ((intro w hSw; (try dsimp only at hSw); go_simp); first | done | with_reducible rfl)
        try simp only [Act.put, List.setIfInBounds_toArray, List.set_cons_zero, List.set_cons_succ]
        change wpAnyH _ _ _ _ _ 17 #[true, true, true, true, false, false, false, false, false, false, false, false, false, false, false, false, false, false, false, false, false] _ _
        refine wpAnyH_takeD (i := 4) (oi := _) (v := _) 91 rfl (by rfl) (by kernel_rfl) (by kernel_rfl) (by kernel_rfl) (fun _ _ _ h => h) (yl_set (f := s.h) (by rfl) (by rfl) (by rfl) (fun X h => qx_rh (HU4.out.2.1.kept h))) (by assumption) ?_
        try simp only [Act.put, List.setIfInBounds_toArray, List.set_cons_zero, List.set_cons_succ]
        change wpAnyH _ _ _ _ _ 16 #[true, true, true, true, true, false, false, false, false, false, false, false, false, false, false, false, false, false, false, false, false] _ _
        refine wpAnyH_takeD (i := 5) (oi := _) (v := ?_) 92 rfl (by rfl) (by kernel_rfl) (by kernel_rfl) (by kernel_rfl) (fun _ _ _ h => h) (.inl ⟨by rfl, ?_⟩) (by assumption) ?_
        rotate_left; ((intro w hSw; (try dsimp only at hSw); go_simp); first | done | with_reducible rfl)
        try simp only [Act.put, List.setIfInBounds_toArray, List.set_cons_zero, List.set_cons_succ]
        change wpAnyH _ _ _ _ _ 15 #[true, true, true, true, true, true, false, false, false, false, false, false, false, false, false, false, false, false, false, false, false] _ _
        refine wpAnyH_takeD (i := 6) (oi := _) (v := _) 93 rfl (by rfl) (by kernel_rfl) (by kernel_rfl) (by kernel_rfl) (fun _ _ _ h => h) (yl_int (n := s.D) (by rfl) (by rfl) (by rfl) (fun X h => by have := (HU4.out.2.1.kept h).range 0 _ rfl; rwa [Nat.zero_add] at this)) (by assumption) ?_
        try simp only [Act.put, List.setIfInBounds_toArray, List.set_cons_zero, List.set_cons_succ]
        change wpAnyH _ _ _ _ _ 14 #[true, true, true, true, true, true, true, false, false, false, false, false, false, false, false, false, false, false, false, false, false] _ _
        refine wpAnyH_ready (rs := [7]) (by kernel_rfl) (by simp) ?_
        refine AllReadyH.cons (o := _) rfl ?_ ?_
        rotate_left; exact AllReadyH.nil
        intro K hK
        go_simp
        go_at_call 18
        refine (upto_any s.D (by have := HGP.out.d2; omega) _).mono ?_; rintro e X1 ⟨rfl, p1⟩
        have k1 := h1.kept p1
        refine hK.out _ _ (k1) (fun hHeld => ?_)
        clear hK K
        try simp only [Act.put, List.setIfInBounds_toArray, List.set_cons_zero, List.set_cons_succ]
        change wpAnyH _ _ _ _ _ 13 #[true, true, true, true, true, true, true, true, false, false, false, false, false, false, false, false, false, false, false, false, false] _ _
        refine wpAnyH_takeD (i := 8) (oi := _) (v := ?_) 95 rfl (by rfl) (by kernel_rfl) (by kernel_rfl) (by kernel_rfl) (fun _ _ _ h => h) (.inl ⟨by rfl, ?_⟩) (by assumption) ?_
        rotate_left; ((intro w hSw; (try dsimp only at hSw); go_simp); first | done | with_reducible rfl)
        try simp only [Act.put, List.setIfInBounds_toArray, List.set_cons_zero, List.set_cons_succ]
        change wpAnyH _ _ _ _ _ 12 #[true, true, true, true, true, true, true, true, true, false, false, false, false, false, false, false, false, false, false, false, false] _ _
        refine wpAnyH_takeD (i := 9) (oi := _) (v := ?_) 96 rfl (by rfl) (by kernel_rfl) (by kernel_rfl) (by kernel_rfl) (fun _ _ _ h => h) (.inl ⟨by rfl, ?_⟩) (by assumption) ?_
        rotate_left; ((intro w hSw; (try dsimp only at hSw); go_simp); first | done | with_reducible rfl)
        try simp only [Act.put, List.setIfInBounds_toArray, List.set_cons_zero, List.set_cons_succ]
        change wpAnyH _ _ _ _ _ 11 #[true, true, true, true, true, true, true, true, true, true, false, false, false, false, false, false, false, false, false, false, false] _ _
        refine wpAnyH_takeD (i := 10) (oi := _) (v := ?_) 97 rfl (by rfl) (by kernel_rfl) (by kernel_rfl) (by kernel_rfl) (fun _ _ _ h => h) (.inl ⟨by rfl, ?_⟩) (by assumption) ?_
        rotate_left; ((intro w hSw; (try dsimp only at hSw); go_simp); first | done | with_reducible rfl)
        try simp only [Act.put, List.setIfInBounds_toArray, List.set_cons_zero, List.set_cons_succ]
        change wpAnyH _ _ _ _ _ 10 #[true, true, true, true, true, true, true, true, true, true, true, false, false, false, false, false, false, false, false, false, false] _ _
        refine wpAnyH_takeD (i := 11) (oi := _) (v := ?_) 98 rfl (by rfl) (by kernel_rfl) (by kernel_rfl) (by kernel_rfl) (fun _ _ _ h => h) (.inl ⟨by rfl, ?_⟩) (by assumption) ?_
        rotate_left; ((intro w hSw; (try dsimp only at hSw); go_simp); first | done | with_reducible rfl)
        try simp only [Act.put, List.setIfInBounds_toArray, List.set_cons_zero, List.set_cons_succ]
        change wpAnyH _ _ _ _ _ 9 #[true, true, true, true, true, true, true, true, true, true, true, true, false, false, false, false, false, false, false, false, false] _ _
        refine wpAnyH_takeD (i := 12) (oi := _) (v := _) 99 rfl (by rfl) (by kernel_rfl) (by kernel_rfl) (by kernel_rfl) (fun _ _ _ h => h) (yl_kind (p := (1, R)) (by rfl) (by rfl) (by rfl) (fun X h => HU4.out.1.kept h)) (by assumption) ?_
        try simp only [Act.put, List.setIfInBounds_toArray, List.set_cons_zero, List.set_cons_succ]
        change wpAnyH _ _ _ _ _ 8 #[true, true, true, true, true, true, true, true, true, true, true, true, true, false, false, false, false, false, false, false, false] _ _
        refine wpAnyH_takeD (i := 13) (oi := _) (v := ?_) 100 rfl (by rfl) (by kernel_rfl) (by kernel_rfl) (by kernel_rfl) (fun _ _ _ h => h) (.inl ⟨by rfl, ?_⟩) (by assumption) ?_
        rotate_left; ((intro w hSw; (try dsimp only at hSw); go_simp); first | done | with_reducible rfl)
        try simp only [Act.put, List.setIfInBounds_toArray, List.set_cons_zero, List.set_cons_succ]
        change wpAnyH _ _ _ _ _ 7 #[true, true, true, true, true, true, true, true, true, true, true, true, true, true, false, false, false, false, false, false, false] _ _
        refine wpAnyH_takeD (i := 14) (oi := _) (v := ?_) 101 rfl (by rfl) (by kernel_rfl) (by kernel_rfl) (by kernel_rfl) (fun _ _ _ h => h) (.inl ⟨by rfl, ?_⟩) (by assumption) ?_
        rotate_left; ((intro w hSw; (try dsimp only at hSw); go_simp); first | done | with_reducible rfl)
        try simp only [Act.put, List.setIfInBounds_toArray, List.set_cons_zero, List.set_cons_succ]
        change wpAnyH _ _ _ _ _ 6 #[true, true, true, true, true, true, true, true, true, true, true, true, true, true, true, false, false, false, false, false, false] _ _
        refine wpAnyH_takeD (i := 15) (oi := _) (v := undef) 102 rfl (by rfl) (by kernel_rfl) (by kernel_rfl) (by kernel_rfl) (fun _ _ _ h => h) (.inr ⟨by rfl, rfl⟩) (by assumption) ?_
        try simp only [Act.put, List.setIfInBounds_toArray, List.set_cons_zero, List.set_cons_succ]
        change wpAnyH _ _ _ _ _ 5 #[true, true, true, true, true, true, true, true, true, true, true, true, true, true, true, true, false, false, false, false, false] _ _
        refine wpAnyH_takeD (i := 16) (oi := _) (v := undef) 103 rfl (by rfl) (by kernel_rfl) (by kernel_rfl) (by kernel_rfl) (fun _ _ _ h => h) (.inr ⟨by rfl, rfl⟩) (by assumption) ?_
        try simp only [Act.put, List.setIfInBounds_toArray, List.set_cons_zero, List.set_cons_succ]
        change wpAnyH _ _ _ _ _ 4 #[true, true, true, true, true, true, true, true, true, true, true, true, true, true, true, true, true, false, false, false, false] _ _
        refine wpAnyH_takeD (i := 17) (oi := _) (v := undef) 104 rfl (by rfl) (by kernel_rfl) (by kernel_rfl) (by kernel_rfl) (fun _ _ _ h => h) (.inr ⟨by rfl, rfl⟩) (by assumption) ?_
        try simp only [Act.put, List.setIfInBounds_toArray, List.set_cons_zero, List.set_cons_succ]
        change wpAnyH _ _ _ _ _ 3 #[true, true, true, true, true, true, true, true, true, true, true, true, true, true, true, true, true, true, false, false, false] _ _
        refine wpAnyH_takeD (i := 18) (oi := _) (v := ?_) 105 rfl (by rfl) (by kernel_rfl) (by kernel_rfl) (by kernel_rfl) (fun _ _ _ h => h) (.inl ⟨by rfl, ?_⟩) (by assumption) ?_
        rotate_left; ((intro w hSw; (try dsimp only at hSw); go_simp); first | done | with_reducible rfl)
        try simp only [Act.put, List.setIfInBounds_toArray, List.set_cons_zero, List.set_cons_succ]
        change wpAnyH _ _ _ _ _ 2 #[true, true, true, true, true, true, true, true, true, true, true, true, true, true, true, true, true, true, true, false, false] _ _
        refine wpAnyH_takeD (i := 19) (oi := _) (v := ?_) 106 rfl (by rfl) (by kernel_rfl) (by kernel_rfl) (by kernel_rfl) (fun _ _ _ h => h) (.inl ⟨by rfl, ?_⟩) (by assumption) ?_
        rotate_left; ((intro w hSw; (try dsimp only at hSw); go_simp); first | done | with_reducible rfl)
        try simp only [Act.put, List.setIfInBounds_toArray, List.set_cons_zero, List.set_cons_succ]
        change wpAnyH _ _ _ _ _ 1 #[true, true, true, true, true, true, true, true, true, true, true, true, true, true, true, true, true, true, true, true, false] _ _
        refine wpAnyH_takeD (i := 20) (oi := _) (v := ?_) 2 rfl (by rfl) (by kernel_rfl) (by kernel_rfl) (by kernel_rfl) (fun _ _ _ h => h) (.inl ⟨by rfl, ?_⟩) (by assumption) ?_
        rotate_left; ((intro w hSw; (try dsimp only at hSw); go_simp); first | done | with_reducible rfl)
        try simp only [Act.put, List.setIfInBounds_toArray, List.set_cons_zero, List.set_cons_succ]
        change wpAnyH _ _ _ _ _ 0 #[true, true, true, true, true, true, true, true, true, true, true, true, true, true, true, true, true, true, true, true, true] _ _
        refine wpAnyH_done (by kernel_rfl) ?_ _
        have e9 := HU4.out.2.2.trans k1
        go_wp2
        go_ret
        exact ⟨rfl, e9⟩
      · have HQQ : Hid (eqB s.h (upF s.D) = false) := by
          show eqB s.h (upF s.D) = _
          cases e9 : eqB s.h (upF s.D) with
          | false => rfl
          | true =>
            have h8 := (ch_full HGP.out).2 (show mayW s 0 = true from e9)
            have h9 := HP.out.1
            omega
        have c0 := H15.out.1.range 0 _ rfl
        have c1 := H15.out.1.range 1 _ rfl
        have c2 := H15.out.1.range 2 _ rfl
        have c3 := H15.out.1.range 3 _ rfl
        have c4 := H15.out.1.range 4 _ rfl
        have d5 := H15.out.2.1.range 5 _ rfl
        have d6 := H15.out.2.1.range 6 _ rfl
        have d7 := H15.out.2.1.range 7 _ rfl
        have d8 := H15.out.2.1.range 8 _ rfl
        have d9 := H15.out.2.1.range 9 _ rfl
        have d10 := H15.out.2.1.range 10 _ rfl
        have d11 := H15.out.2.1.range 11 _ rfl
        have d12 := H15.out.2.1.range 12 _ rfl
        rw [Nat.zero_add] at c0 c1 c2 c3 c4 d5 d6 d7 d8 d9 d10 d11 d12
        have hAnd := and_any R s.k
        have hEm := empty_any (andF R s.k)
        rw [show emB (andF R s.k) = true by rw [HP.out.2.1, ← HP.out.1]; exact least_known HGP.out] at hEm
        unfold SV at hAnd hEm
        go_wp2_with fail
        refine (hAnd _).mono ?_; rintro e u3 ⟨rfl, m3⟩
        have HU3 := hid (And.intro (H15.out.1.kept m3) (And.intro (H15.out.2.1.kept m3) (H15.out.2.2.trans m3)))
        clear hAnd m3 c0 c1 c2 c3 c4 d5 d6 d7 d8 d9 d10 d11 d12 H15
        go_wp2_with fail
        refine (hEm _).mono ?_; rintro e u4 ⟨rfl, m4⟩
        have HU4 := hid (And.intro (HU3.out.1.kept m4) (And.intro (HU3.out.2.1.kept m4) (HU3.out.2.2.trans m4)))
        clear hEm m4 HU3
        have c0 := HU4.out.1.range 0 _ rfl
        have c1 := HU4.out.1.range 1 _ rfl
        have c2 := HU4.out.1.range 2 _ rfl
        have c3 := HU4.out.1.range 3 _ rfl
        have c4 := HU4.out.1.range 4 _ rfl
        have d5 := HU4.out.2.1.range 5 _ rfl
        have d6 := HU4.out.2.1.range 6 _ rfl
        have d7 := HU4.out.2.1.range 7 _ rfl
        have d8 := HU4.out.2.1.range 8 _ rfl
        have d9 := HU4.out.2.1.range 9 _ rfl
        have d10 := HU4.out.2.1.range 10 _ rfl
        have d11 := HU4.out.2.1.range 11 _ rfl
        have d12 := HU4.out.2.1.range 12 _ rfl
        rw [Nat.zero_add] at c0 c1 c2 c3 c4 d5 d6 d7 d8 d9 d10 d11 d12
        go_upto_region 15 with fail
        clear c0 c1 c2 c3 c4 d5 d6 d7 d8 d9 d10 d11 d12
        have heq := eq_bin s.h (upF s.D)
        rw [show eqB s.h (upF s.D) = false from HQQ.out] at heq
        have heg := eq_guard s.h (upF s.D)
        have h1 : Kp u4 u4.drew := (Kp.refl u4).drew
        refine wp_region_held_drew (S := fun X => Kp u4 X) (by kernel_rfl) (h1) (fun hHeld => ?_)
        change wpAnyH _ _ _ _ _ 21 #[false, false, false, false, false, false, false, false, false, false, false, false, false, false, false, false, false, false, false, false, false] _ _
        refine wpAnyH_takeD (i := 0) (oi := _) (v := ?_) 87 rfl (by rfl) (by kernel_rfl) (by kernel_rfl) (by kernel_rfl) (fun _ _ _ h => h) (.inl ⟨by rfl, ?_⟩) (by assumption) ?_
        rotate_left; ((intro w hSw; (try dsimp only at hSw); go_simp); first | done | with_reducible rfl)
        try simp only [Act.put, List.setIfInBounds_toArray, List.set_cons_zero, List.set_cons_succ]
        change wpAnyH _ _ _ _ _ 20 #[true, false, false, false, false, false, false, false, false, false, false, false, false, false, false, false, false, false, false, false, false] _ _
        refine wpAnyH_takeD (i := 1) (oi := _) (v := _) 88 rfl (by rfl) (by kernel_rfl) (by kernel_rfl) (by kernel_rfl) (fun _ _ _ h => h) (yl_kind (p := (2, R)) (by rfl) (by rfl) (by rfl) (fun X h => HU4.out.1.kept h)) (by assumption) ?_
        try simp only [Act.put, List.setIfInBounds_toArray, List.set_cons_zero, List.set_cons_succ]
        change wpAnyH _ _ _ _ _ 19 #[true, true, false, false, false, false, false, false, false, false, false, false, false, false, false, false, false, false, false, false, false] _ _
        refine wpAnyH_takeD (i := 2) (oi := _) (v := ?_) 89 rfl (by rfl) (by kernel_rfl) (by kernel_rfl) (by kernel_rfl) (fun _ _ _ h => h) (.inl ⟨by rfl, ?_⟩) (by assumption) ?_
        rotate_left; ((intro w hSw; (try dsimp only at hSw); go_simp); first | done | with_reducible rfl)
        try simp only [Act.put, List.setIfInBounds_toArray, List.set_cons_zero, List.set_cons_succ]
        change wpAnyH _ _ _ _ _ 18 #[true, true, true, false, false, false, false, false, false, false, false, false, false, false, false, false, false, false, false, false, false] _ _
        refine wpAnyH_takeD (i := 3) (oi := _) (v := ?_) 90 rfl (by rfl) (by kernel_rfl) (by kernel_rfl) (by kernel_rfl) (fun _ _ _ h => h) (.inl ⟨by rfl, ?_⟩) (by assumption) ?_
        rotate_left; ((intro w hSw; (try dsimp only at hSw); go_simp); first | done | with_reducible rfl)
        try simp only [Act.put, List.setIfInBounds_toArray, List.set_cons_zero, List.set_cons_succ]
        change wpAnyH _ _ _ _ _ 17 #[true, true, true, true, false, false, false, false, false, false, false, false, false, false, false, false, false, false, false, false, false] _ _
        refine wpAnyH_takeD (i := 4) (oi := _) (v := _) 91 rfl (by rfl) (by kernel_rfl) (by kernel_rfl) (by kernel_rfl) (fun _ _ _ h => h) (yl_set (f := s.h) (by rfl) (by rfl) (by rfl) (fun X h => qx_rh (HU4.out.2.1.kept h))) (by assumption) ?_
        try simp only [Act.put, List.setIfInBounds_toArray, List.set_cons_zero, List.set_cons_succ]
        change wpAnyH _ _ _ _ _ 16 #[true, true, true, true, true, false, false, false, false, false, false, false, false, false, false, false, false, false, false, false, false] _ _
        refine wpAnyH_takeD (i := 5) (oi := _) (v := ?_) 92 rfl (by rfl) (by kernel_rfl) (by kernel_rfl) (by kernel_rfl) (fun _ _ _ h => h) (.inl ⟨by rfl, ?_⟩) (by assumption) ?_
        rotate_left; ((intro w hSw; (try dsimp only at hSw); go_simp); first | done | with_reducible rfl)
        try simp only [Act.put, List.setIfInBounds_toArray, List.set_cons_zero, List.set_cons_succ]
        change wpAnyH _ _ _ _ _ 15 #[true, true, true, true, true, true, false, false, false, false, false, false, false, false, false, false, false, false, false, false, false] _ _
        refine wpAnyH_takeD (i := 6) (oi := _) (v := _) 93 rfl (by rfl) (by kernel_rfl) (by kernel_rfl) (by kernel_rfl) (fun _ _ _ h => h) (yl_int (n := s.D) (by rfl) (by rfl) (by rfl) (fun X h => by have := (HU4.out.2.1.kept h).range 0 _ rfl; rwa [Nat.zero_add] at this)) (by assumption) ?_
        try simp only [Act.put, List.setIfInBounds_toArray, List.set_cons_zero, List.set_cons_succ]
        change wpAnyH _ _ _ _ _ 14 #[true, true, true, true, true, true, true, false, false, false, false, false, false, false, false, false, false, false, false, false, false] _ _
        refine wpAnyH_ready (rs := [7]) (by kernel_rfl) (by simp) ?_
        refine AllReadyH.cons (o := _) rfl ?_ ?_
        rotate_left; exact AllReadyH.nil
        intro K hK
        go_simp
        go_at_call 18
        refine (upto_any s.D (by have := HGP.out.d2; omega) _).mono ?_; rintro e X1 ⟨rfl, p1⟩
        have k1 := h1.kept p1
        refine hK.out _ _ (k1) (fun hHeld => ?_)
        clear hK K
        try simp only [Act.put, List.setIfInBounds_toArray, List.set_cons_zero, List.set_cons_succ]
        change wpAnyH _ _ _ _ _ 13 #[true, true, true, true, true, true, true, true, false, false, false, false, false, false, false, false, false, false, false, false, false] _ _
        refine wpAnyH_takeD (i := 8) (oi := _) (v := ?_) 95 rfl (by rfl) (by kernel_rfl) (by kernel_rfl) (by kernel_rfl) (fun _ _ _ h => h) (.inl ⟨by rfl, ?_⟩) (by assumption) ?_
        rotate_left; ((intro w hSw; (try dsimp only at hSw); go_simp); first | done | with_reducible rfl)
        try simp only [Act.put, List.setIfInBounds_toArray, List.set_cons_zero, List.set_cons_succ]
        change wpAnyH _ _ _ _ _ 12 #[true, true, true, true, true, true, true, true, true, false, false, false, false, false, false, false, false, false, false, false, false] _ _
        refine wpAnyH_takeD (i := 9) (oi := _) (v := ?_) 96 rfl (by rfl) (by kernel_rfl) (by kernel_rfl) (by kernel_rfl) (fun _ _ _ h => h) (.inl ⟨by rfl, ?_⟩) (by assumption) ?_
        rotate_left; ((intro w hSw; (try dsimp only at hSw); go_simp); first | done | with_reducible rfl)
        try simp only [Act.put, List.setIfInBounds_toArray, List.set_cons_zero, List.set_cons_succ]
        change wpAnyH _ _ _ _ _ 11 #[true, true, true, true, true, true, true, true, true, true, false, false, false, false, false, false, false, false, false, false, false] _ _
        refine wpAnyH_takeD (i := 10) (oi := _) (v := ?_) 97 rfl (by rfl) (by kernel_rfl) (by kernel_rfl) (by kernel_rfl) (fun _ _ _ h => h) (.inl ⟨by rfl, ?_⟩) (by assumption) ?_
        rotate_left; ((intro w hSw; (try dsimp only at hSw); go_simp); first | done | with_reducible rfl)
        try simp only [Act.put, List.setIfInBounds_toArray, List.set_cons_zero, List.set_cons_succ]
        change wpAnyH _ _ _ _ _ 10 #[true, true, true, true, true, true, true, true, true, true, true, false, false, false, false, false, false, false, false, false, false] _ _
        refine wpAnyH_takeD (i := 11) (oi := _) (v := ?_) 98 rfl (by rfl) (by kernel_rfl) (by kernel_rfl) (by kernel_rfl) (fun _ _ _ h => h) (.inl ⟨by rfl, ?_⟩) (by assumption) ?_
        rotate_left; ((intro w hSw; (try dsimp only at hSw); go_simp); first | done | with_reducible rfl)
        try simp only [Act.put, List.setIfInBounds_toArray, List.set_cons_zero, List.set_cons_succ]
        change wpAnyH _ _ _ _ _ 9 #[true, true, true, true, true, true, true, true, true, true, true, true, false, false, false, false, false, false, false, false, false] _ _
        refine wpAnyH_takeD (i := 12) (oi := _) (v := _) 99 rfl (by rfl) (by kernel_rfl) (by kernel_rfl) (by kernel_rfl) (fun _ _ _ h => h) (yl_kind (p := (2, R)) (by rfl) (by rfl) (by rfl) (fun X h => HU4.out.1.kept h)) (by assumption) ?_
        try simp only [Act.put, List.setIfInBounds_toArray, List.set_cons_zero, List.set_cons_succ]
        change wpAnyH _ _ _ _ _ 8 #[true, true, true, true, true, true, true, true, true, true, true, true, true, false, false, false, false, false, false, false, false] _ _
        refine wpAnyH_takeD (i := 13) (oi := _) (v := ?_) 100 rfl (by rfl) (by kernel_rfl) (by kernel_rfl) (by kernel_rfl) (fun _ _ _ h => h) (.inl ⟨by rfl, ?_⟩) (by assumption) ?_
        rotate_left; ((intro w hSw; (try dsimp only at hSw); go_simp); first | done | with_reducible rfl)
        try simp only [Act.put, List.setIfInBounds_toArray, List.set_cons_zero, List.set_cons_succ]
        change wpAnyH _ _ _ _ _ 7 #[true, true, true, true, true, true, true, true, true, true, true, true, true, true, false, false, false, false, false, false, false] _ _
        refine wpAnyH_takeD (i := 14) (oi := _) (v := ?_) 101 rfl (by rfl) (by kernel_rfl) (by kernel_rfl) (by kernel_rfl) (fun _ _ _ h => h) (.inl ⟨by rfl, ?_⟩) (by assumption) ?_
        rotate_left; ((intro w hSw; (try dsimp only at hSw); go_simp); first | done | with_reducible rfl)
        try simp only [Act.put, List.setIfInBounds_toArray, List.set_cons_zero, List.set_cons_succ]
        change wpAnyH _ _ _ _ _ 6 #[true, true, true, true, true, true, true, true, true, true, true, true, true, true, true, false, false, false, false, false, false] _ _
        refine wpAnyH_takeD (i := 15) (oi := _) (v := undef) 102 rfl (by rfl) (by kernel_rfl) (by kernel_rfl) (by kernel_rfl) (fun _ _ _ h => h) (.inr ⟨by rfl, rfl⟩) (by assumption) ?_
        try simp only [Act.put, List.setIfInBounds_toArray, List.set_cons_zero, List.set_cons_succ]
        change wpAnyH _ _ _ _ _ 5 #[true, true, true, true, true, true, true, true, true, true, true, true, true, true, true, true, false, false, false, false, false] _ _
        refine wpAnyH_takeD (i := 16) (oi := _) (v := undef) 103 rfl (by rfl) (by kernel_rfl) (by kernel_rfl) (by kernel_rfl) (fun _ _ _ h => h) (.inr ⟨by rfl, rfl⟩) (by assumption) ?_
        try simp only [Act.put, List.setIfInBounds_toArray, List.set_cons_zero, List.set_cons_succ]
        change wpAnyH _ _ _ _ _ 4 #[true, true, true, true, true, true, true, true, true, true, true, true, true, true, true, true, true, false, false, false, false] _ _
        refine wpAnyH_takeD (i := 17) (oi := _) (v := undef) 104 rfl (by rfl) (by kernel_rfl) (by kernel_rfl) (by kernel_rfl) (fun _ _ _ h => h) (.inr ⟨by rfl, rfl⟩) (by assumption) ?_
        try simp only [Act.put, List.setIfInBounds_toArray, List.set_cons_zero, List.set_cons_succ]
        change wpAnyH _ _ _ _ _ 3 #[true, true, true, true, true, true, true, true, true, true, true, true, true, true, true, true, true, true, false, false, false] _ _
        refine wpAnyH_takeD (i := 18) (oi := _) (v := ?_) 105 rfl (by rfl) (by kernel_rfl) (by kernel_rfl) (by kernel_rfl) (fun _ _ _ h => h) (.inl ⟨by rfl, ?_⟩) (by assumption) ?_
        rotate_left; ((intro w hSw; (try dsimp only at hSw); go_simp); first | done | with_reducible rfl)
        try simp only [Act.put, List.setIfInBounds_toArray, List.set_cons_zero, List.set_cons_succ]
        change wpAnyH _ _ _ _ _ 2 #[true, true, true, true, true, true, true, true, true, true, true, true, true, true, true, true, true, true, true, false, false] _ _
        refine wpAnyH_takeD (i := 19) (oi := _) (v := ?_) 106 rfl (by rfl) (by kernel_rfl) (by kernel_rfl) (by kernel_rfl) (fun _ _ _ h => h) (.inl ⟨by rfl, ?_⟩) (by assumption) ?_
        rotate_left; ((intro w hSw; (try dsimp only at hSw); go_simp); first | done | with_reducible rfl)
        try simp only [Act.put, List.setIfInBounds_toArray, List.set_cons_zero, List.set_cons_succ]
        change wpAnyH _ _ _ _ _ 1 #[true, true, true, true, true, true, true, true, true, true, true, true, true, true, true, true, true, true, true, true, false] _ _
        refine wpAnyH_takeD (i := 20) (oi := _) (v := ?_) 2 rfl (by rfl) (by kernel_rfl) (by kernel_rfl) (by kernel_rfl) (fun _ _ _ h => h) (.inl ⟨by rfl, ?_⟩) (by assumption) ?_
        rotate_left; ((intro w hSw; (try dsimp only at hSw); go_simp); first | done | with_reducible rfl)
        try simp only [Act.put, List.setIfInBounds_toArray, List.set_cons_zero, List.set_cons_succ]
        change wpAnyH _ _ _ _ _ 0 #[true, true, true, true, true, true, true, true, true, true, true, true, true, true, true, true, true, true, true, true, true] _ _
        refine wpAnyH_done (by kernel_rfl) ?_ _
        have e9 := HU4.out.2.2.trans k1
        go_wp2
        go_ret
        exact ⟨rfl, e9⟩
      · have HQQ : Hid (eqB s.h (upF s.D) = false) := by
          show eqB s.h (upF s.D) = _
          cases e9 : eqB s.h (upF s.D) with
          | false => rfl
          | true =>
            have h8 := (ch_full HGP.out).2 (show mayW s 0 = true from e9)
            have h9 := HP.out.1
            omega
        have c0 := H15.out.1.range 0 _ rfl
        have c1 := H15.out.1.range 1 _ rfl
        have c2 := H15.out.1.range 2 _ rfl
        have c3 := H15.out.1.range 3 _ rfl
        have c4 := H15.out.1.range 4 _ rfl
        have d5 := H15.out.2.1.range 5 _ rfl
        have d6 := H15.out.2.1.range 6 _ rfl
        have d7 := H15.out.2.1.range 7 _ rfl
        have d8 := H15.out.2.1.range 8 _ rfl
        have d9 := H15.out.2.1.range 9 _ rfl
        have d10 := H15.out.2.1.range 10 _ rfl
        have d11 := H15.out.2.1.range 11 _ rfl
        have d12 := H15.out.2.1.range 12 _ rfl
        rw [Nat.zero_add] at c0 c1 c2 c3 c4 d5 d6 d7 d8 d9 d10 d11 d12
        go_upto_region 15 with fail
        clear c0 c1 c2 c3 c4 d5 d6 d7 d8 d9 d10 d11 d12
        have heq := eq_bin s.h (upF s.D)
        rw [show eqB s.h (upF s.D) = false from HQQ.out] at heq
        have heg := eq_guard s.h (upF s.D)
        have h1 : Kp wr wr.drew := (Kp.refl wr).drew
        refine wp_region_held_drew (S := fun X => Kp wr X) (by kernel_rfl) (h1) (fun hHeld => ?_)
        change wpAnyH _ _ _ _ _ 21 #[false, false, false, false, false, false, false, false, false, false, false, false, false, false, false, false, false, false, false, false, false] _ _
        refine wpAnyH_takeD (i := 0) (oi := _) (v := ?_) 87 rfl (by rfl) (by kernel_rfl) (by kernel_rfl) (by kernel_rfl) (fun _ _ _ h => h) (.inl ⟨by rfl, ?_⟩) (by assumption) ?_
        rotate_left; ((intro w hSw; (try dsimp only at hSw); go_simp); first | done | with_reducible rfl)
        try simp only [Act.put, List.setIfInBounds_toArray, List.set_cons_zero, List.set_cons_succ]
        change wpAnyH _ _ _ _ _ 20 #[true, false, false, false, false, false, false, false, false, false, false, false, false, false, false, false, false, false, false, false, false] _ _
        refine wpAnyH_takeD (i := 1) (oi := _) (v := _) 88 rfl (by rfl) (by kernel_rfl) (by kernel_rfl) (by kernel_rfl) (fun _ _ _ h => h) (yl_kind (p := (3, R)) (by rfl) (by rfl) (by rfl) (fun X h => H15.out.1.kept h)) (by assumption) ?_
        try simp only [Act.put, List.setIfInBounds_toArray, List.set_cons_zero, List.set_cons_succ]
        change wpAnyH _ _ _ _ _ 19 #[true, true, false, false, false, false, false, false, false, false, false, false, false, false, false, false, false, false, false, false, false] _ _
        refine wpAnyH_takeD (i := 2) (oi := _) (v := ?_) 89 rfl (by rfl) (by kernel_rfl) (by kernel_rfl) (by kernel_rfl) (fun _ _ _ h => h) (.inl ⟨by rfl, ?_⟩) (by assumption) ?_
        rotate_left; ((intro w hSw; (try dsimp only at hSw); go_simp); first | done | with_reducible rfl)
        try simp only [Act.put, List.setIfInBounds_toArray, List.set_cons_zero, List.set_cons_succ]
        change wpAnyH _ _ _ _ _ 18 #[true, true, true, false, false, false, false, false, false, false, false, false, false, false, false, false, false, false, false, false, false] _ _
        refine wpAnyH_takeD (i := 3) (oi := _) (v := ?_) 90 rfl (by rfl) (by kernel_rfl) (by kernel_rfl) (by kernel_rfl) (fun _ _ _ h => h) (.inl ⟨by rfl, ?_⟩) (by assumption) ?_
        rotate_left; ((intro w hSw; (try dsimp only at hSw); go_simp); first | done | with_reducible rfl)
        try simp only [Act.put, List.setIfInBounds_toArray, List.set_cons_zero, List.set_cons_succ]
        change wpAnyH _ _ _ _ _ 17 #[true, true, true, true, false, false, false, false, false, false, false, false, false, false, false, false, false, false, false, false, false] _ _
        refine wpAnyH_takeD (i := 4) (oi := _) (v := _) 91 rfl (by rfl) (by kernel_rfl) (by kernel_rfl) (by kernel_rfl) (fun _ _ _ h => h) (yl_set (f := s.h) (by rfl) (by rfl) (by rfl) (fun X h => qx_rh (H15.out.2.1.kept h))) (by assumption) ?_
        try simp only [Act.put, List.setIfInBounds_toArray, List.set_cons_zero, List.set_cons_succ]
        change wpAnyH _ _ _ _ _ 16 #[true, true, true, true, true, false, false, false, false, false, false, false, false, false, false, false, false, false, false, false, false] _ _
        refine wpAnyH_takeD (i := 5) (oi := _) (v := ?_) 92 rfl (by rfl) (by kernel_rfl) (by kernel_rfl) (by kernel_rfl) (fun _ _ _ h => h) (.inl ⟨by rfl, ?_⟩) (by assumption) ?_
        rotate_left; ((intro w hSw; (try dsimp only at hSw); go_simp); first | done | with_reducible rfl)
        try simp only [Act.put, List.setIfInBounds_toArray, List.set_cons_zero, List.set_cons_succ]
        change wpAnyH _ _ _ _ _ 15 #[true, true, true, true, true, true, false, false, false, false, false, false, false, false, false, false, false, false, false, false, false] _ _
        refine wpAnyH_takeD (i := 6) (oi := _) (v := _) 93 rfl (by rfl) (by kernel_rfl) (by kernel_rfl) (by kernel_rfl) (fun _ _ _ h => h) (yl_int (n := s.D) (by rfl) (by rfl) (by rfl) (fun X h => by have := (H15.out.2.1.kept h).range 0 _ rfl; rwa [Nat.zero_add] at this)) (by assumption) ?_
        try simp only [Act.put, List.setIfInBounds_toArray, List.set_cons_zero, List.set_cons_succ]
        change wpAnyH _ _ _ _ _ 14 #[true, true, true, true, true, true, true, false, false, false, false, false, false, false, false, false, false, false, false, false, false] _ _
        refine wpAnyH_ready (rs := [7]) (by kernel_rfl) (by simp) ?_
        refine AllReadyH.cons (o := _) rfl ?_ ?_
        rotate_left; exact AllReadyH.nil
        intro K hK
        go_simp
        go_at_call 18
        refine (upto_any s.D (by have := HGP.out.d2; omega) _).mono ?_; rintro e X1 ⟨rfl, p1⟩
        have k1 := h1.kept p1
        refine hK.out _ _ (k1) (fun hHeld => ?_)
        clear hK K
        try simp only [Act.put, List.setIfInBounds_toArray, List.set_cons_zero, List.set_cons_succ]
        change wpAnyH _ _ _ _ _ 13 #[true, true, true, true, true, true, true, true, false, false, false, false, false, false, false, false, false, false, false, false, false] _ _
        refine wpAnyH_takeD (i := 8) (oi := _) (v := ?_) 95 rfl (by rfl) (by kernel_rfl) (by kernel_rfl) (by kernel_rfl) (fun _ _ _ h => h) (.inl ⟨by rfl, ?_⟩) (by assumption) ?_
        rotate_left; ((intro w hSw; (try dsimp only at hSw); go_simp); first | done | with_reducible rfl)
        try simp only [Act.put, List.setIfInBounds_toArray, List.set_cons_zero, List.set_cons_succ]
        change wpAnyH _ _ _ _ _ 12 #[true, true, true, true, true, true, true, true, true, false, false, false, false, false, false, false, false, false, false, false, false] _ _
        refine wpAnyH_takeD (i := 9) (oi := _) (v := ?_) 96 rfl (by rfl) (by kernel_rfl) (by kernel_rfl) (by kernel_rfl) (fun _ _ _ h => h) (.inl ⟨by rfl, ?_⟩) (by assumption) ?_
        rotate_left; ((intro w hSw; (try dsimp only at hSw); go_simp); first | done | with_reducible rfl)
        try simp only [Act.put, List.setIfInBounds_toArray, List.set_cons_zero, List.set_cons_succ]
        change wpAnyH _ _ _ _ _ 11 #[true, true, true, true, true, true, true, true, true, true, false, false, false, false, false, false, false, false, false, false, false] _ _
        refine wpAnyH_takeD (i := 10) (oi := _) (v := ?_) 97 rfl (by rfl) (by kernel_rfl) (by kernel_rfl) (by kernel_rfl) (fun _ _ _ h => h) (.inl ⟨by rfl, ?_⟩) (by assumption) ?_
        rotate_left; ((intro w hSw; (try dsimp only at hSw); go_simp); first | done | with_reducible rfl)
        try simp only [Act.put, List.setIfInBounds_toArray, List.set_cons_zero, List.set_cons_succ]
        change wpAnyH _ _ _ _ _ 10 #[true, true, true, true, true, true, true, true, true, true, true, false, false, false, false, false, false, false, false, false, false] _ _
        refine wpAnyH_takeD (i := 11) (oi := _) (v := ?_) 98 rfl (by rfl) (by kernel_rfl) (by kernel_rfl) (by kernel_rfl) (fun _ _ _ h => h) (.inl ⟨by rfl, ?_⟩) (by assumption) ?_
        rotate_left; ((intro w hSw; (try dsimp only at hSw); go_simp); first | done | with_reducible rfl)
        try simp only [Act.put, List.setIfInBounds_toArray, List.set_cons_zero, List.set_cons_succ]
        change wpAnyH _ _ _ _ _ 9 #[true, true, true, true, true, true, true, true, true, true, true, true, false, false, false, false, false, false, false, false, false] _ _
        refine wpAnyH_takeD (i := 12) (oi := _) (v := _) 99 rfl (by rfl) (by kernel_rfl) (by kernel_rfl) (by kernel_rfl) (fun _ _ _ h => h) (yl_kind (p := (3, R)) (by rfl) (by rfl) (by rfl) (fun X h => H15.out.1.kept h)) (by assumption) ?_
        try simp only [Act.put, List.setIfInBounds_toArray, List.set_cons_zero, List.set_cons_succ]
        change wpAnyH _ _ _ _ _ 8 #[true, true, true, true, true, true, true, true, true, true, true, true, true, false, false, false, false, false, false, false, false] _ _
        refine wpAnyH_takeD (i := 13) (oi := _) (v := ?_) 100 rfl (by rfl) (by kernel_rfl) (by kernel_rfl) (by kernel_rfl) (fun _ _ _ h => h) (.inl ⟨by rfl, ?_⟩) (by assumption) ?_
        rotate_left; ((intro w hSw; (try dsimp only at hSw); go_simp); first | done | with_reducible rfl)
        try simp only [Act.put, List.setIfInBounds_toArray, List.set_cons_zero, List.set_cons_succ]
        change wpAnyH _ _ _ _ _ 7 #[true, true, true, true, true, true, true, true, true, true, true, true, true, true, false, false, false, false, false, false, false] _ _
        refine wpAnyH_takeD (i := 14) (oi := _) (v := ?_) 101 rfl (by rfl) (by kernel_rfl) (by kernel_rfl) (by kernel_rfl) (fun _ _ _ h => h) (.inl ⟨by rfl, ?_⟩) (by assumption) ?_
        rotate_left; ((intro w hSw; (try dsimp only at hSw); go_simp); first | done | with_reducible rfl)
        try simp only [Act.put, List.setIfInBounds_toArray, List.set_cons_zero, List.set_cons_succ]
        change wpAnyH _ _ _ _ _ 6 #[true, true, true, true, true, true, true, true, true, true, true, true, true, true, true, false, false, false, false, false, false] _ _
        refine wpAnyH_takeD (i := 15) (oi := _) (v := undef) 102 rfl (by rfl) (by kernel_rfl) (by kernel_rfl) (by kernel_rfl) (fun _ _ _ h => h) (.inr ⟨by rfl, rfl⟩) (by assumption) ?_
        try simp only [Act.put, List.setIfInBounds_toArray, List.set_cons_zero, List.set_cons_succ]
        change wpAnyH _ _ _ _ _ 5 #[true, true, true, true, true, true, true, true, true, true, true, true, true, true, true, true, false, false, false, false, false] _ _
        refine wpAnyH_takeD (i := 16) (oi := _) (v := undef) 103 rfl (by rfl) (by kernel_rfl) (by kernel_rfl) (by kernel_rfl) (fun _ _ _ h => h) (.inr ⟨by rfl, rfl⟩) (by assumption) ?_
        try simp only [Act.put, List.setIfInBounds_toArray, List.set_cons_zero, List.set_cons_succ]
        change wpAnyH _ _ _ _ _ 4 #[true, true, true, true, true, true, true, true, true, true, true, true, true, true, true, true, true, false, false, false, false] _ _
        refine wpAnyH_takeD (i := 17) (oi := _) (v := undef) 104 rfl (by rfl) (by kernel_rfl) (by kernel_rfl) (by kernel_rfl) (fun _ _ _ h => h) (.inr ⟨by rfl, rfl⟩) (by assumption) ?_
        try simp only [Act.put, List.setIfInBounds_toArray, List.set_cons_zero, List.set_cons_succ]
        change wpAnyH _ _ _ _ _ 3 #[true, true, true, true, true, true, true, true, true, true, true, true, true, true, true, true, true, true, false, false, false] _ _
        refine wpAnyH_takeD (i := 18) (oi := _) (v := ?_) 105 rfl (by rfl) (by kernel_rfl) (by kernel_rfl) (by kernel_rfl) (fun _ _ _ h => h) (.inl ⟨by rfl, ?_⟩) (by assumption) ?_
        rotate_left; ((intro w hSw; (try dsimp only at hSw); go_simp); first | done | with_reducible rfl)
        try simp only [Act.put, List.setIfInBounds_toArray, List.set_cons_zero, List.set_cons_succ]
        change wpAnyH _ _ _ _ _ 2 #[true, true, true, true, true, true, true, true, true, true, true, true, true, true, true, true, true, true, true, false, false] _ _
        refine wpAnyH_takeD (i := 19) (oi := _) (v := ?_) 106 rfl (by rfl) (by kernel_rfl) (by kernel_rfl) (by kernel_rfl) (fun _ _ _ h => h) (.inl ⟨by rfl, ?_⟩) (by assumption) ?_
        rotate_left; ((intro w hSw; (try dsimp only at hSw); go_simp); first | done | with_reducible rfl)
        try simp only [Act.put, List.setIfInBounds_toArray, List.set_cons_zero, List.set_cons_succ]
        change wpAnyH _ _ _ _ _ 1 #[true, true, true, true, true, true, true, true, true, true, true, true, true, true, true, true, true, true, true, true, false] _ _
        refine wpAnyH_takeD (i := 20) (oi := _) (v := ?_) 2 rfl (by rfl) (by kernel_rfl) (by kernel_rfl) (by kernel_rfl) (fun _ _ _ h => h) (.inl ⟨by rfl, ?_⟩) (by assumption) ?_
        rotate_left; ((intro w hSw; (try dsimp only at hSw); go_simp); first | done | with_reducible rfl)
        try simp only [Act.put, List.setIfInBounds_toArray, List.set_cons_zero, List.set_cons_succ]
        change wpAnyH _ _ _ _ _ 0 #[true, true, true, true, true, true, true, true, true, true, true, true, true, true, true, true, true, true, true, true, true] _ _
        refine wpAnyH_done (by kernel_rfl) ?_ _
        have e9 := H15.out.2.2.trans k1
        go_wp2
        go_ret
        exact ⟨rfl, e9⟩

set_option maxRecDepth 100000 in
theorem lifted (os : Os) (started : os.Started) (H : Type) (enc : TypeId × Value → H) :
    ReturnsInHanded {} Tryd.checked os 4 .any (fun w args => (Rows.planLeastSpec.pre enc Tryd.prog Tryd.f4 [] false w args ∧ laidMetH Tryd.prog plz w) ∧ sizedMet enc Tryd.prog Tryd.f4 (OpenSpec.ofChange Rows.planLeastSpec) false w args)
      (Rows.planLeastSpec.post enc Tryd.prog Tryd.f4 false true false false) := by
  refine returnsInHanded_of_change_and (C := Tryd.checked) (X := fun w _ => laidMetH Tryd.prog plz w) (fun _ _ _ hh h => h.of_heap hh) own started (by kernel_rfl) Tryd.func4
    (ChangeSpec.witness_shaped (enc := enc) (C := Tryd.checked) (os := os) (X := fun w _ => laidMetH Tryd.prog plz w) false (World.doorLaid Tryd.prog 400 os) #[.agg #[.int .i64 0, .int .u64 0, .int .u64 0, .int .u64 0, .int .u64 0]] 8 rfl (World.shaped_of_RefB (by kernel_rfl) (by kernel_rfl)) (by kernel_rfl) (by kernel_rfl) (by kernel_rfl) (pdoor_met os _)) ?_
  intro W base args ds gs before hval0 hW hcnd _ hL _
  have hval : ∀ (j : Nat) t v, Tryd.f4.params[j]? = some t → args[j]? = some v → Value.okWide Tryd.prog W .any base t v := hval0
  have hW' := hW
  have hlt := hW.lt
  obtain ⟨p, q, hA0, hV, rfl, hfz, hnd⟩ := hW
  have hA : DataW.TrodAll enc Tryd.prog W 0 (fun _ => true) true Tryd.f4.params.toList args.toList ds p := hA0
  have hAk := hA
  rw [Tryd.params4] at hA hval
  obtain ⟨v0, vs0, d0, ds0, p0, q0, hargs, rfl, rfl, h0, r0⟩ := trodAll_cons hA
  obtain ⟨rfl, rfl, rfl⟩ := trodAll_nil r0
  obtain rfl : args = #[v0] := by cases args; simp_all
  obtain ⟨rfl, rfl⟩ := trodVars_none hV
  obtain ⟨a0, rfl, w0⟩ := open_rx (hval 0 24 v0 rfl rfl) h0
  clear hA0 hval0
  simp only [List.append_nil] at hW' hAk hlt
  have hwk := walk W (pof_laid hL) a0 w0
  refine hwk.mono fun e W' ⟨he, hg⟩ => ?_
  subst he
  exact ⟨_, rfl, post_kp (pv := []) hW' (fun _ _ _ => (trodAll_cons_mk (shut_bool Tryd.underlying4 _) trodAll_mk0)) (fun sp hsp => trodAll_stays laidOut (by rw [Tryd.params4]; exact of_decide_eq_true (by kernel_rfl)) hAk (fun x hx => Below.same hg (hlt x hx)) hsp) (fun _ _ => rfl) (by simp) hg⟩

theorem over : Rows.planLeastRow.holds Tryd.pinned (OpenSpec.ofChange Rows.planLeastSpec) :=
  OpenClaim.holds_of_wide 4 Tryd.f4 rfl rfl rfl rfl rfl rfl rfl ⟨rfl, rfl, rfl, rfl, rfl⟩ rfl rfl rfl rfl rfl (by kernel_rfl) Tryd.func4 (by kernel_rfl)
    (of_decide_eq_true (by kernel_rfl)) (by unfold Func.isWrapper; first | (rw [if_pos (by decide +kernel)]; kernel_rfl) | (rw [if_neg (by decide +kernel)]; exact ⟨rfl, rfl⟩))
    (fun os started H enc _ => lifted os started H enc)

theorem card : Claim7.holds Tryd.pinned (.plain (OpenSpec.ofChange Rows.planLeastSpec)) Rows.planLeastCard :=
  Claim7.holds_tied_plain_at .later [] [.data] true Rows.planLeastCard.stood.harness false
    over (fun _ h => by cases h) (by kernel_rfl) (fun _ h => by cases h) planLeast_row_tie rfl ⟨rfl, rfl⟩ (by kernel_rfl) rfl
    (fun f fn hf hfn => by
      have e : some f = some 4 := hf.symm.trans (by kernel_rfl)
      obtain rfl := Option.some.inj e
      obtain rfl : fn = Tryd.f4 := (Option.some.inj (Tryd.func4.symm.trans hfn)).symm
      exact ⟨by kernel_rfl, fun j t ht => by
        rw [Tryd.params4] at ht
        have hm : t ∈ [24] := by simpa using Array.mem_of_getElem? ht
        have hall : ([24].all fun u => !Tryd.prog.wantsStandIn u) = true := by kernel_rfl
        exact (show Tryd.prog.wantsStandIn t = false by simpa using List.all_eq_true.1 hall t hm)⟩)
    (by kernel_rfl)

end Go.Proofs.YtffbachgbcefiaaDoor.planLeast
namespace Go.Proofs.YtffbachgbcefiaaDoor
theorem planLeast_holds : Rows.PlanLeastCardSaid := planLeast.card
end Go.Proofs.YtffbachgbcefiaaDoor
