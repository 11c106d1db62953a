/-
  Contract of plan's Ways. No condition.
-/
import Derived.Test.YtffbachgbcefiaaDoorPsGood
import Derived.Test.YtffbachgbcefiaaDoorPsGreat
import Derived.Test.YtffbachgbcefiaaDoorPsSmall
import Derived.Test.YtffbachgbcefiaaDoorPsWl
namespace Go.Proofs.YtffbachgbcefiaaDoor
open Go.RowKit Plain
set_option linter.unusedVariables false
set_option linter.unusedSimpArgs false

def wyP (s : PS) (n : Nat) : List Pn := (wyN s n).map fun k => (k, rdW s k)
def wyE (s : PS) : Int := if gdP s = true then 0 else 4
theorem wyP_len (s : PS) (n : Nat) : (wyP s n).length ≤ n := by unfold wyP; rw [List.length_map]; exact wyN_len s n
theorem wyP_yes {s : PS} {n : Nat} (h : mayW s n = true) : wyP s (n + 1) = wyP s n ++ [(n, rdW s n)] := by unfold wyP; rw [show wyN s (n + 1) = wyN s n ++ (if mayW s n then [n] else []) from rfl, if_pos h]; simp
theorem wyP_no {s : PS} {n : Nat} (h : mayW s n = false) : wyP s (n + 1) = wyP s n := by unfold wyP; rw [show wyN s (n + 1) = wyN s n ++ (if mayW s n then [n] else []) from rfl, h]; simp
/-- the ways that may be, with what they read. -/
def wyQ (s : PS) : List Pn := (wyL s).map fun k => (k, rdW s k)
theorem wyQ_ok {s : PS} (h : gdP s = true) : wyQ s = wyP s 4 := by unfold wyQ wyP wyL; rw [if_pos h]
theorem wyQ_no {s : PS} (h : gdP s = false) : wyQ s = [] := by unfold wyQ; rw [wy_no h]; rfl
theorem idxF0 (a b c d : Value) (w : World) : (Instr.index 66 (.agg #[a, b, c, d]) (.int .i64 0)).run Tryd.prog w = .ok a w := by
  have u3 := Tryd.underlying65
  have a3 := Tryd.isAgg65
  have z3 := Tryd.sizeOf65
  have ut := Tryd.underlying66
  unfold Instr.index
  go_simp
theorem idxF1 (a b c d : Value) (w : World) : (Instr.index 66 (.agg #[a, b, c, d]) (.int .i64 1)).run Tryd.prog w = .ok b w := by
  have u3 := Tryd.underlying65
  have a3 := Tryd.isAgg65
  have z3 := Tryd.sizeOf65
  have ut := Tryd.underlying66
  unfold Instr.index
  go_simp
theorem idxF2 (a b c d : Value) (w : World) : (Instr.index 66 (.agg #[a, b, c, d]) (.int .i64 2)).run Tryd.prog w = .ok c w := by
  have u3 := Tryd.underlying65
  have a3 := Tryd.isAgg65
  have z3 := Tryd.sizeOf65
  have ut := Tryd.underlying66
  unfold Instr.index
  go_simp
theorem idxF3 (a b c d : Value) (w : World) : (Instr.index 66 (.agg #[a, b, c, d]) (.int .i64 3)).run Tryd.prog w = .ok d w := by
  have u3 := Tryd.underlying65
  have a3 := Tryd.isAgg65
  have z3 := Tryd.sizeOf65
  have ut := Tryd.underlying66
  unfold Instr.index
  go_simp
set_option maxRecDepth 100000 in
set_option maxHeartbeats 8000000 in
theorem ways_any (s : PS) (w : World) : Calls Tryd.prog 7 #[PV s] w fun e w' => ∃ v, e = .returned (.tuple #[v, .int .i64 (wyE s)]) ∧ pOw w' w.heap.size v (wyQ s) ∧ Kp w w' := by
  obtain ⟨w0, hw0⟩ : ∃ w0, w0 = w.alloc (.cells (psA s) 30) := ⟨_, rfl⟩
  have h1 : Bx w0 w.heap.size s := by rw [hw0]; exact Bx.new w s
  have k0 : Kp w w0 := by rw [hw0]; exact (Kp.refl w).alloc _
  have HW := hid hw0
  have hG := good_any s w0
  clear hw0
  cases hg : gdP s with
  | false =>
    rw [hg] at hG
    rw [show wyE s = 4 by unfold wyE; rw [hg]; rfl, wyQ_no hg]
    have K0 := hid k0
    go_enter Tryd.func7, Tryd.ntmps7
    go_upto_region 1 with fail
    change Code.wp _ _ _ _ (w.alloc (.cells (psA s) 30))
    rw [← show w0 = w.alloc (.cells (psA s) 30) from HW.out]
    clear HW
    go_wp2_with (refine wl_ps rfl rfl rfl h1 ?_)
    refine hG.mono ?_; rintro e w1 ⟨rfl, k1⟩
    have K1 := hid (K0.out.trans k1)
    clear hG k1 K0 h1 k0
    go_wp2
    go_ret2
    exact ⟨_, rfl, pOw.nil _ _, K1.out⟩
  | true =>
    have HG := hid ((gd_iff s).1 hg)
    rw [hg] at hG
    rw [show wyE s = 0 by unfold wyE; rw [hg]; rfl, wyQ_ok hg]
    clear hg
    go_enter Tryd.func7, Tryd.ntmps7
    go_upto_region 1 with fail
    change Code.wp _ _ _ _ (w.alloc (.cells (psA s) 30))
    rw [← show w0 = w.alloc (.cells (psA s) 30) from HW.out]
    clear HW
    go_wp2_with (refine wl_ps rfl rfl rfl h1 ?_)
    refine hG.mono ?_; rintro e w1 ⟨rfl, k1⟩
    have h2 := h1.kept k1
    have K1 := hid (k0.trans k1)
    clear hG k1 h1 k0
    go_wp2_with (refine wl_ps rfl rfl rfl h2 ?_)
    go_loopw [4, 5, 6, 7, 8, 21] (fun v4 _ _ _ _ i wr => ∃ k : Nat, k ≤ 4 ∧ i = .int .i64 k ∧ Hid (pOw wr w.heap.size v4 (wyP s k) ∧ Kp w wr)) (fun _ _ _ _ _ i _ => 4 - (intOf i).toNat)
    case atStart => exact ⟨0, by omega, by go_num, ⟨pOw.nil _ _, K1.out⟩⟩
    case round =>
      clear h2 K1
      obtain ⟨k, hk, rfl, HQ⟩ := hrel
      rename World => wr
      by_cases hk4 : k < 4
      · have hQ2 := HQ.out
        clear HQ
        obtain rfl | rfl | rfl | rfl : k = 0 ∨ k = 1 ∨ k = 2 ∨ k = 3 := by omega
        · have hc := full_any s (by have := HG.out.d1; omega) (by have := HG.out.d2; omega)
          have HQ2 := hid hQ2
          obtain ⟨mb, hmb⟩ : ∃ b, b = mayW s 0 := ⟨_, rfl⟩
          obtain ⟨rf, hrf⟩ : ∃ f, f = rdW s 0 := ⟨_, rfl⟩
          rw [← hmb, ← hrf] at hc
          have HM := hid (And.intro hmb hrf)
          clear hQ2 hmb hrf
          have hix := idxF0
          go_wp2_with fail
          refine (hc _).mono ?_; rintro e w2 ⟨rfl, k2⟩
          have y2 := hid (HQ2.out.1.kept k2)
          have z2 := hid (HQ2.out.2.trans k2)
          clear hc k2 HQ2
          obtain ⟨Z, hZ⟩ : ∃ Z, Z = w2.alloc (.cells (w4 no4) 28) := ⟨_, rfl⟩
          have aZ : A4 Z w2.heap.size no4 := by rw [hZ]; exact A4.new _ _ _
          have pZ : Kp w2 Z := by rw [hZ]; exact (Kp.refl _).alloc _
          have HZ := hid hZ
          have HA := hid (And.intro (aZ.put (wd rf)) (And.intro (pOw.kept y2.out (Kp.put4 pZ (Nat.le_refl _) (wd rf))) (z2.out.trans (Kp.put4 pZ (Nat.le_refl _) (wd rf)))))
          have hst := hid aZ
          clear aZ pZ hZ y2 z2
          cases mb with
          | false =>
            have HN : Hid (pOw (put4 Z w2.heap.size (wd rf)) w.heap.size u4 (wyP s 1) ∧ Kp w (put4 Z w2.heap.size (wd rf))) := by rw [wyP_no HM.out.1.symm]; exact HA.out.2
            clear HA HM
            go_wp2_with (first | (rw [show w2.alloc (.cells #[.int .u64 0, .int .u64 0, .int .u64 0, .int .u64 0] 28) = Z from HZ.out.symm]; refine wl_put rfl rfl rfl rfl rfl hst.out ?_))
            refine ⟨⟨1, by omega, by go_num, HN⟩, by simp [intOf]⟩
          | true =>
            have HR := hid HA.out.1.range
            obtain ⟨V, hV⟩ : ∃ V, V = put4 Z w2.heap.size (wd rf) := ⟨_, rfl⟩
            have HV := hid hV
            rw [← hV] at HA HR
            clear hV
            go_wp2_with (first
              | ((rw [show w2.alloc (.cells #[.int .u64 0, .int .u64 0, .int .u64 0, .int .u64 0] 28) = Z from HZ.out.symm]; refine wl_put rfl rfl rfl rfl rfl hst.out ?_); rw [show put4 Z w2.heap.size (wd rf) = V from HV.out.symm])
              | (refine wl_set rfl rfl rfl HR.out ?_)
              | (refine wl_bplan rfl rfl (0, rf) rfl rfl ?_)
              | (refine pbuild rfl _ rfl (0, rf) rfl ?_; intro w5 k5 r5)
              | (at_builtin; refine pappend rfl _ _ rfl w.heap.size _ _ rfl (pOw.kept HA.out.2.1 k5) (0, rf) _ rfl r5 (by have := wyP_len s 0; omega) (HA.out.2.2.trans k5).size ?_; intro v6 w6 o6 g6 _))
            refine ⟨⟨1, by omega, by go_num, ?_⟩, by simp [intOf]⟩
            refine ⟨?_, (HA.out.2.2.trans k5).grown g6 (pOw.own (pOw.kept HA.out.2.1 k5))⟩
            rw [wyP_yes HM.out.1.symm, ← HM.out.2]
            exact o6
        · have hc := great_any s (by have := HG.out.d1; omega) (by have := HG.out.d2; omega)
          have HQ2 := hid hQ2
          obtain ⟨mb, hmb⟩ : ∃ b, b = mayW s 1 := ⟨_, rfl⟩
          obtain ⟨rf, hrf⟩ : ∃ f, f = rdW s 1 := ⟨_, rfl⟩
          rw [← hmb, ← hrf] at hc
          have HM := hid (And.intro hmb hrf)
          clear hQ2 hmb hrf
          have hix := idxF1
          go_wp2_with fail
          refine (hc _).mono ?_; rintro e w2 ⟨rfl, k2⟩
          have y2 := hid (HQ2.out.1.kept k2)
          have z2 := hid (HQ2.out.2.trans k2)
          clear hc k2 HQ2
          obtain ⟨Z, hZ⟩ : ∃ Z, Z = w2.alloc (.cells (w4 no4) 28) := ⟨_, rfl⟩
          have aZ : A4 Z w2.heap.size no4 := by rw [hZ]; exact A4.new _ _ _
          have pZ : Kp w2 Z := by rw [hZ]; exact (Kp.refl _).alloc _
          have HZ := hid hZ
          have HA := hid (And.intro (aZ.put (wd rf)) (And.intro (pOw.kept y2.out (Kp.put4 pZ (Nat.le_refl _) (wd rf))) (z2.out.trans (Kp.put4 pZ (Nat.le_refl _) (wd rf)))))
          have hst := hid aZ
          clear aZ pZ hZ y2 z2
          cases mb with
          | false =>
            have HN : Hid (pOw (put4 Z w2.heap.size (wd rf)) w.heap.size u4 (wyP s 2) ∧ Kp w (put4 Z w2.heap.size (wd rf))) := by rw [wyP_no HM.out.1.symm]; exact HA.out.2
            clear HA HM
            go_wp2_with (first | (rw [show w2.alloc (.cells #[.int .u64 0, .int .u64 0, .int .u64 0, .int .u64 0] 28) = Z from HZ.out.symm]; refine wl_put rfl rfl rfl rfl rfl hst.out ?_))
            refine ⟨⟨2, by omega, by go_num, HN⟩, by simp [intOf]⟩
          | true =>
            have HR := hid HA.out.1.range
            obtain ⟨V, hV⟩ : ∃ V, V = put4 Z w2.heap.size (wd rf) := ⟨_, rfl⟩
            have HV := hid hV
            rw [← hV] at HA HR
            clear hV
            go_wp2_with (first
              | ((rw [show w2.alloc (.cells #[.int .u64 0, .int .u64 0, .int .u64 0, .int .u64 0] 28) = Z from HZ.out.symm]; refine wl_put rfl rfl rfl rfl rfl hst.out ?_); rw [show put4 Z w2.heap.size (wd rf) = V from HV.out.symm])
              | (refine wl_set rfl rfl rfl HR.out ?_)
              | (refine wl_bplan rfl rfl (1, rf) rfl rfl ?_)
              | (refine pbuild rfl _ rfl (1, rf) rfl ?_; intro w5 k5 r5)
              | (at_builtin; refine pappend rfl _ _ rfl w.heap.size _ _ rfl (pOw.kept HA.out.2.1 k5) (1, rf) _ rfl r5 (by have := wyP_len s 1; omega) (HA.out.2.2.trans k5).size ?_; intro v6 w6 o6 g6 _))
            refine ⟨⟨2, by omega, by go_num, ?_⟩, by simp [intOf]⟩
            refine ⟨?_, (HA.out.2.2.trans k5).grown g6 (pOw.own (pOw.kept HA.out.2.1 k5))⟩
            rw [wyP_yes HM.out.1.symm, ← HM.out.2]
            exact o6
        · have hc := small_any s (by have := HG.out.d1; omega) (by have := HG.out.d2; omega)
          have HQ2 := hid hQ2
          obtain ⟨mb, hmb⟩ : ∃ b, b = mayW s 2 := ⟨_, rfl⟩
          obtain ⟨rf, hrf⟩ : ∃ f, f = rdW s 2 := ⟨_, rfl⟩
          rw [← hmb, ← hrf] at hc
          have HM := hid (And.intro hmb hrf)
          clear hQ2 hmb hrf
          have hix := idxF2
          go_wp2_with fail
          refine (hc _).mono ?_; rintro e w2 ⟨rfl, k2⟩
          have y2 := hid (HQ2.out.1.kept k2)
          have z2 := hid (HQ2.out.2.trans k2)
          clear hc k2 HQ2
          obtain ⟨Z, hZ⟩ : ∃ Z, Z = w2.alloc (.cells (w4 no4) 28) := ⟨_, rfl⟩
          have aZ : A4 Z w2.heap.size no4 := by rw [hZ]; exact A4.new _ _ _
          have pZ : Kp w2 Z := by rw [hZ]; exact (Kp.refl _).alloc _
          have HZ := hid hZ
          have HA := hid (And.intro (aZ.put (wd rf)) (And.intro (pOw.kept y2.out (Kp.put4 pZ (Nat.le_refl _) (wd rf))) (z2.out.trans (Kp.put4 pZ (Nat.le_refl _) (wd rf)))))
          have hst := hid aZ
          clear aZ pZ hZ y2 z2
          cases mb with
          | false =>
            have HN : Hid (pOw (put4 Z w2.heap.size (wd rf)) w.heap.size u4 (wyP s 3) ∧ Kp w (put4 Z w2.heap.size (wd rf))) := by rw [wyP_no HM.out.1.symm]; exact HA.out.2
            clear HA HM
            go_wp2_with (first | (rw [show w2.alloc (.cells #[.int .u64 0, .int .u64 0, .int .u64 0, .int .u64 0] 28) = Z from HZ.out.symm]; refine wl_put rfl rfl rfl rfl rfl hst.out ?_))
            refine ⟨⟨3, by omega, by go_num, HN⟩, by simp [intOf]⟩
          | true =>
            have HR := hid HA.out.1.range
            obtain ⟨V, hV⟩ : ∃ V, V = put4 Z w2.heap.size (wd rf) := ⟨_, rfl⟩
            have HV := hid hV
            rw [← hV] at HA HR
            clear hV
            go_wp2_with (first
              | ((rw [show w2.alloc (.cells #[.int .u64 0, .int .u64 0, .int .u64 0, .int .u64 0] 28) = Z from HZ.out.symm]; refine wl_put rfl rfl rfl rfl rfl hst.out ?_); rw [show put4 Z w2.heap.size (wd rf) = V from HV.out.symm])
              | (refine wl_set rfl rfl rfl HR.out ?_)
              | (refine wl_bplan rfl rfl (2, rf) rfl rfl ?_)
              | (refine pbuild rfl _ rfl (2, rf) rfl ?_; intro w5 k5 r5)
              | (at_builtin; refine pappend rfl _ _ rfl w.heap.size _ _ rfl (pOw.kept HA.out.2.1 k5) (2, rf) _ rfl r5 (by have := wyP_len s 2; omega) (HA.out.2.2.trans k5).size ?_; intro v6 w6 o6 g6 _))
            refine ⟨⟨3, by omega, by go_num, ?_⟩, by simp [intOf]⟩
            refine ⟨?_, (HA.out.2.2.trans k5).grown g6 (pOw.own (pOw.kept HA.out.2.1 k5))⟩
            rw [wyP_yes HM.out.1.symm, ← HM.out.2]
            exact o6
        · have hc := whole_any s (by have := HG.out.d1; omega) (by have := HG.out.d2; omega)
          have HQ2 := hid hQ2
          obtain ⟨mb, hmb⟩ : ∃ b, b = mayW s 3 := ⟨_, rfl⟩
          obtain ⟨rf, hrf⟩ : ∃ f, f = rdW s 3 := ⟨_, rfl⟩
          rw [← hmb, ← hrf] at hc
          have HM := hid (And.intro hmb hrf)
          clear hQ2 hmb hrf
          have hix := idxF3
          go_wp2_with fail
          refine (hc _).mono ?_; rintro e w2 ⟨rfl, k2⟩
          have y2 := hid (HQ2.out.1.kept k2)
          have z2 := hid (HQ2.out.2.trans k2)
          clear hc k2 HQ2
          obtain ⟨Z, hZ⟩ : ∃ Z, Z = w2.alloc (.cells (w4 no4) 28) := ⟨_, rfl⟩
          have aZ : A4 Z w2.heap.size no4 := by rw [hZ]; exact A4.new _ _ _
          have pZ : Kp w2 Z := by rw [hZ]; exact (Kp.refl _).alloc _
          have HZ := hid hZ
          have HA := hid (And.intro (aZ.put (wd rf)) (And.intro (pOw.kept y2.out (Kp.put4 pZ (Nat.le_refl _) (wd rf))) (z2.out.trans (Kp.put4 pZ (Nat.le_refl _) (wd rf)))))
          have hst := hid aZ
          clear aZ pZ hZ y2 z2
          cases mb with
          | false =>
            have HN : Hid (pOw (put4 Z w2.heap.size (wd rf)) w.heap.size u4 (wyP s 4) ∧ Kp w (put4 Z w2.heap.size (wd rf))) := by rw [wyP_no HM.out.1.symm]; exact HA.out.2
            clear HA HM
            go_wp2_with (first | (rw [show w2.alloc (.cells #[.int .u64 0, .int .u64 0, .int .u64 0, .int .u64 0] 28) = Z from HZ.out.symm]; refine wl_put rfl rfl rfl rfl rfl hst.out ?_))
            refine ⟨⟨4, by omega, by go_num, HN⟩, by simp [intOf]⟩
          | true =>
            have HR := hid HA.out.1.range
            obtain ⟨V, hV⟩ : ∃ V, V = put4 Z w2.heap.size (wd rf) := ⟨_, rfl⟩
            have HV := hid hV
            rw [← hV] at HA HR
            clear hV
            go_wp2_with (first
              | ((rw [show w2.alloc (.cells #[.int .u64 0, .int .u64 0, .int .u64 0, .int .u64 0] 28) = Z from HZ.out.symm]; refine wl_put rfl rfl rfl rfl rfl hst.out ?_); rw [show put4 Z w2.heap.size (wd rf) = V from HV.out.symm])
              | (refine wl_set rfl rfl rfl HR.out ?_)
              | (refine wl_bplan rfl rfl (3, rf) rfl rfl ?_)
              | (refine pbuild rfl _ rfl (3, rf) rfl ?_; intro w5 k5 r5)
              | (at_builtin; refine pappend rfl _ _ rfl w.heap.size _ _ rfl (pOw.kept HA.out.2.1 k5) (3, rf) _ rfl r5 (by have := wyP_len s 3; omega) (HA.out.2.2.trans k5).size ?_; intro v6 w6 o6 g6 _))
            refine ⟨⟨4, by omega, by go_num, ?_⟩, by simp [intOf]⟩
            refine ⟨?_, (HA.out.2.2.trans k5).grown g6 (pOw.own (pOw.kept HA.out.2.1 k5))⟩
            rw [wyP_yes HM.out.1.symm, ← HM.out.2]
            exact o6
      · obtain rfl : k = 4 := by omega
        have H := hid HQ.out
        clear HQ
        go_wp2
        go_ret2
        exact ⟨_, rfl, H.out⟩

end Go.Proofs.YtffbachgbcefiaaDoor
