/-
  Contract of plan's Choose. No condition.
-/
import Derived.Test.YtffbachgbcefiaaDoorPsMin
import Derived.Test.YtffbachgbcefiaaDoorPsWay
namespace Go.Proofs.YtffbachgbcefiaaDoor
open Go.RowKit Plain
set_option linter.unusedVariables false
set_option linter.unusedSimpArgs false

/-- what Choose tells. -/
def chP (s : PS) : Pn := if gdP s = true then (chW s, rdW s (chW s)) else pZp
theorem mn_pick (s : PS) (M : List Nat) : ∀ j, j < M.length → mnI (M.map fun k => (k, rdW s k)) j = (fun k => (k, rdW s k)) (pickF (fun k => cn 256 (rdW s k)) (M.getD 0 0) (M.tail.take j))
  | 0, h => by
    cases M with
    | nil => simp at h
    | cons a r => rfl
  | j + 1, h => by
    have ih := mn_pick s M j (by omega)
    cases M with
    | nil => simp at h
    | cons a r =>
      have hj : j < r.length := by simpa using h
      have e1 : ((a :: r).map fun k => ((k, rdW s k) : Pn)).getD (j + 1) (0, noF) = (r[j], rdW s r[j]) := by
        rw [List.map_cons, List.getD_cons_succ, List.getD_eq_getElem?_getD, List.getElem?_map, List.getElem?_eq_getElem hj]; rfl
      show (if cn 256 (((a :: r).map fun k => ((k, rdW s k) : Pn)).getD (j + 1) (0, noF)).2 < cn 256 (mnI ((a :: r).map fun k => ((k, rdW s k) : Pn)) j).2 then ((a :: r).map fun k => ((k, rdW s k) : Pn)).getD (j + 1) (0, noF) else mnI ((a :: r).map fun k => ((k, rdW s k) : Pn)) j) = _
      rw [ih, e1, List.tail_cons, List.take_add_one, List.getElem?_eq_getElem hj, Option.toList_some, pickF_snoc]
      show (if cn 256 (rdW s r[j]) < cn 256 (rdW s (pickF (fun k => cn 256 (rdW s k)) ((a :: r).getD 0 0) (List.take j r))) then _ else _) = _
      by_cases c : cn 256 (rdW s r[j]) < cn 256 (rdW s (pickF (fun k => cn 256 (rdW s k)) ((a :: r).getD 0 0) (List.take j r)))
      · rw [if_pos c, if_pos c]
      · rw [if_neg c, if_neg c]
theorem mn_ch {s : PS} (h : gdP s = true) : mnI (wyQ s) ((wyQ s).length - 1) = chP s := by
  have hp := wy_pos ((gd_iff s).1 h)
  have := mn_pick s (wyL s) ((wyL s).length - 1) (by omega)
  unfold chP wyQ
  rw [if_pos h, List.length_map, this]
  unfold chW pick
  rw [show (wyL s).tail.take ((wyL s).length - 1) = (wyL s).tail from List.take_of_length_le (by simp)]
set_option maxRecDepth 100000 in
set_option maxHeartbeats 8000000 in
theorem choose_any (s : PS) (w : World) : Calls Tryd.prog 9 #[PV s] w fun e w' => e = .returned (.tuple #[pV (chP s), .int .i64 (wyE s)]) ∧ Kp w w' := by
  obtain ⟨w1, hw1⟩ : ∃ w1, w1 = w.alloc (.cells (psA s) 30) := ⟨_, rfl⟩
  obtain ⟨w0, hw0⟩ : ∃ w0, w0 = w1.alloc (.cells (pA pZp) 45) := ⟨_, rfl⟩
  have s1 : w1.heap.size = w.heap.size + 1 := by rw [hw1]; simp
  have h1 : Bx w0 w.heap.size s := by rw [hw0, hw1]; exact (Bx.new w s).kept ((Kp.refl _).alloc _)
  have p1 : Px w0 (w.heap.size + 1) pZp := by rw [hw0, ← s1]; exact Px.new w1 pZp
  have k0 : Kp w w0 := by rw [hw0, hw1]; exact ((Kp.refl w).alloc _).alloc _
  have hz : ∀ W, (zeroValue 45).run Tryd.prog W = .ok (pV pZp) W := fun W => by
    obtain ⟨i, hi, hz0, _⟩ := info_parts pinfo
    rw [pZ_is] at hz0
    simp [zeroValue, typeInfo, hi, hz0]
  have HW := hid (And.intro hw0 hw1)
  have hG := ways_any s w0
  have HP := hid (And.intro p1 k0)
  clear hw0 hw1 s1 p1 k0
  cases hg : gdP s with
  | false =>
    rw [show chP s = pZp by unfold chP; rw [hg]; rfl]
    rw [show wyE s = 4 by unfold wyE; rw [hg]; rfl] at hG ⊢
    clear hg
    go_enter Tryd.func9, Tryd.ntmps9
    go_upto_region 1 with fail
    change Code.wp _ _ _ _ ((w.alloc (.cells (psA s) 30)).alloc (.cells (pA pZp) 45))
    rw [← show w1 = w.alloc (.cells (psA s) 30) from HW.out.2, ← show w0 = w1.alloc (.cells (pA pZp) 45) from HW.out.1]
    clear HW hz
    go_wp2_with (refine wl_ps rfl rfl rfl h1 ?_)
    refine hG.mono ?_; rintro e w2 ⟨v, rfl, hv, k2⟩
    have hth := hid (HP.out.1.kept k2).there
    obtain ⟨V, hV⟩ : ∃ V, V = w2.setCells (w.heap.size + 1) 0 (pA pZp).toList := ⟨_, rfl⟩
    have HE : Hid (Px V (w.heap.size + 1) pZp ∧ Kp w V) := by show _ ∧ _; rw [hV]; exact And.intro ((HP.out.1.kept k2).set pZp) (kp_setCells (HP.out.2.trans k2) (w.heap.size + 1) 0 (by omega) (pA pZp).toList)
    have HV := hid hV
    clear hG k2 hv h1 HP hV
    go_wp2_with (refine wl_pstore rfl rfl rfl (p := pZp) rfl (by rw [← pZ_is]; rfl) hth.out ?_; rw [← show V = w2.setCells (w.heap.size + 1) 0 (pA pZp).toList from HV.out])
    refine bodyPost_ret (res_cell_tmp rfl _ _ (w.heap.size + 1) (pA pZp) rfl rfl HE.out.1.range Tryd.underlying45 rfl (by rw [psize]; rfl)) rfl ?_
    exact ⟨rfl, HE.out.2⟩
  | true =>
    have HM := hid (And.intro (mn_ch hg) (wy_pos ((gd_iff s).1 hg)))
    rw [show wyE s = 0 by unfold wyE; rw [hg]; rfl] at hG ⊢
    clear hg
    go_enter Tryd.func9, Tryd.ntmps9
    go_upto_region 1 with fail
    change Code.wp _ _ _ _ ((w.alloc (.cells (psA s) 30)).alloc (.cells (pA pZp) 45))
    rw [← show w1 = w.alloc (.cells (psA s) 30) from HW.out.2, ← show w0 = w1.alloc (.cells (pA pZp) 45) from HW.out.1]
    clear HW hz
    go_wp2_with (refine wl_ps rfl rfl rfl h1 ?_)
    refine hG.mono ?_; rintro e w2 ⟨v, rfl, hv, k2⟩
    obtain ⟨p, c, g, rfl, hc1, hc2, hp, hr⟩ := hv.cells
    have hlen : 0 < (wyQ s).length := by unfold wyQ; rw [List.length_map]; exact HM.out.2
    have hl4 : (wyQ s).length ≤ 4 := by unfold wyQ; rw [List.length_map]; exact wy_len s
    obtain rfl := hp hlen
    have hmin := min_any g (wyQ s).length c (wyQ s) rfl hlen (by omega) hc1 hc2 w2 hr
    rw [HM.out.1] at hmin
    have HP2 := hid (And.intro (HP.out.1.kept k2) (HP.out.2.trans k2))
    clear hG k2 hv h1 HP hr hc1 hc2 hlen hl4 hp HM
    go_wp2_with fail
    refine hmin.mono ?_; rintro e w3 ⟨rfl, k3⟩
    have hth := hid (HP2.out.1.kept k3).there
    obtain ⟨m, hm⟩ : ∃ m, m = chP s := ⟨_, rfl⟩
    rw [← hm]
    obtain ⟨V, hV⟩ : ∃ V, V = w3.setCells (w.heap.size + 1) 0 (pA m).toList := ⟨_, rfl⟩
    have HE : Hid (Px V (w.heap.size + 1) m ∧ Kp w V) := by show _ ∧ _; rw [hV]; exact And.intro ((HP2.out.1.kept k3).set m) (kp_setCells (HP2.out.2.trans k3) (w.heap.size + 1) 0 (by omega) (pA m).toList)
    have HV := hid hV
    have HM := hid hm
    clear hmin k3 HP2 hV hm
    go_wp2_with (refine wl_pstore rfl rfl rfl (p := m) rfl rfl hth.out ?_; rw [← show V = w3.setCells (w.heap.size + 1) 0 (pA m).toList from HV.out])
    refine bodyPost_ret (res_cell_tmp rfl _ _ (w.heap.size + 1) (pA m) rfl rfl HE.out.1.range Tryd.underlying45 rfl (by rw [psize]; rfl)) rfl ?_
    exact ⟨by rw [← HM.out]; rfl, HE.out.2⟩

end Go.Proofs.YtffbachgbcefiaaDoor
