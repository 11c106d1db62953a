/-
  Contract of spans' Add: the places of a list and a span, in memory of the call's own. Condition: that the list's cells hold the spans.
-/
import Derived.Test.YtdfdoinhkjoalaaSpConcat
import Derived.Deep.RegionWith
namespace Go.Proofs.Ytdfdoinhkjoalaa
open Go.RowKit Plain
set_option linter.unusedVariables false

set_option maxRecDepth 100000 in
set_option maxHeartbeats 4000000 in
theorem add_any (v : Value) (l : List (Int × Int)) (s : (Int × Int)) (w : World) (h : SpIn w v l) (hlen : l.length ≤ 1000) : Calls Try.prog 33 #[v, spV s] w (fun e w' => Res l s (fun p q => p || q) w w' e) := by
  obtain ⟨a, b, off, cap, rfl, h⟩ := h
  obtain ⟨x, y⟩ := s
  obtain ⟨w0, hw0⟩ : ∃ w0, w0 = w.alloc (.cells #[.int .i64 x, .int .i64 y] 76) := ⟨_, rfl⟩
  have HW : Hid (w0 = w.alloc (.cells #[.int .i64 x, .int .i64 y] 76)) := hw0
  have k0 : Kp w w0 := by rw [hw0]; exact (Kp.refl w).alloc _
  have q0 : w0.cell? ⟨w.heap.size, 0, none⟩ = some (.int .i64 x) := by rw [hw0, World.cell?_alloc_at _ _ _ _ rfl]; rfl
  have q1 : w0.cell? ⟨w.heap.size, 1, none⟩ = some (.int .i64 y) := by rw [hw0, World.cell?_alloc_at _ _ _ _ rfl]; rfl
  have hbx : Hid (Bx w0 w.heap.size (x, y)) := by rw [hw0]; exact Bx.new w (x, y)
  clear hw0
  have hR := refuse_any (.slice a l.length cap) l (x, y) w0 ⟨a, b, off, cap, rfl, h.kept k0⟩
  have hle := h.le
  have hmx := h.mx
  unfold maxLen at hmx
  by_cases hz : rfE l (x, y) = 0
  · obtain ⟨hG, hg⟩ := rf_zero hz
    obtain ⟨g1, g2, g3⟩ := (gd_iff _).1 hg
    have hz2 : Hid (rfE l (x, y) = 0) := hz
    rw [hz] at hR
    have hM : ∀ w', Kp w0 w' → Calls Try.prog 46 #[.slice a l.length cap, spV (x - 1, y + 1)] w' fun e w'' => ∃ i j : Nat, e = .returned (.tuple #[.int .i64 i, .int .i64 j]) ∧ Mid l (x - 1, y + 1) i j ∧ Kp w' w'' :=
      fun w' k => reach_any _ l (x - 1, y + 1) w' ⟨a, b, off, cap, rfl, h.kept (k0.trans k)⟩ (by omega) hG (by show x - 1 < y + 1; simp only at g2; omega)
    obtain ⟨n, hn⟩ : ∃ n, n = l.length := ⟨_, rfl⟩
    have HN : Hid (n = l.length) := hn
    have HA : Hid (SpAt w a b off cap l) := h
    have HG : Hid (G l) := hG
    have HS : Hid (gd (x, y) = true) := hg
    rw [← hn] at hle hR hM hlen ⊢
    simp only [mA] at g1 g2 g3
    have hmin := @imin Try.prog
    have hmax := @imax Try.prog
    clear h hn hz hG hg
    unfold spV at hR hM ⊢
    go_enter Try.func33, Try.ntmps33
    go_wp2_with fail
    rw [show w.alloc (.cells #[.int .i64 x, .int .i64 y] 76) = w0 from HW.out.symm]
    clear HW
    refine hR.mono ?_; rintro e w1 ⟨rfl, k1⟩
    have r0 := k1.held q0
    have r1 := k1.held q1
    clear hR q0 q1
    go_wp2_with fail
    refine (hM w1 k1).mono ?_; rintro e w2 ⟨i, j, rfl, hmid, k2⟩
    have q0 := k2.held r0
    have q1 := k2.held r1
    have K2 : Hid (Kp w w2) := (k0.trans k1).trans k2
    have HBX : Hid (Bx w2 w.heap.size (x, y)) := (hbx.out.kept k1).kept k2
    have hb0 : w.heap.size < w2.heap.size := World.block_lt_of_cell? _ _ q0
    have hij := hmid.ij
    have hjn : j ≤ n := by rw [HN.out]; exact hmid.jl
    have HM : Hid (Mid l (x - 1, y + 1) i j) := hmid
    clear hM hmid k0 k1 k2 r0 r1
    have hhd := run_head a n cap i (by omega)
    have htl := run_tail a n cap j (by omega) hle
    have HH : Hid (∀ W, Kp w W → SpIn W (.slice (cutA a cap 0) i cap) (l.take i)) := fun W k => (SpIn.head HA.out i (by rw [← HN.out]; omega)).kept k
    have HT0 : Hid (∀ W, Kp w W → SpIn W (.slice (cutA a cap j) (n - j) (cap - j)) (l.drop j)) := fun W k => by have := (SpIn.tail HA.out j (by rw [← HN.out]; omega)).kept k; rwa [← HN.out] at this
    have hti : Hid ((l.take i).length = i) := by rw [List.length_take, ← HN.out]; show _ = _; omega
    have htj : Hid ((l.drop j).length = n - j) := by rw [List.length_drop, ← HN.out]; rfl
    clear hbx
    by_cases hlt : i < j
    · obtain rfl := HA.out.ha (by rw [← HN.out]; omega)
      have c0 := K2.out.held (HA.out.c0 i (by rw [← HN.out]; omega))
      have c1 := K2.out.held (HA.out.c1 (j - 1) (by rw [← HN.out]; omega))
      have HMG0 : Hid (mrg l (x, y) i j = (min x (l.getD i (0, 0)).1, max y (l.getD (j - 1) (0, 0)).2)) := if_pos hlt
      obtain ⟨p1, hp1⟩ : ∃ p1, p1 = (l.getD i (0, 0)).1 := ⟨_, rfl⟩
      obtain ⟨p2, hp2⟩ : ∃ p2, p2 = (l.getD (j - 1) (0, 0)).2 := ⟨_, rfl⟩
      rw [← hp1] at c0 HMG0
      rw [← hp2] at c1 HMG0
      clear hp1 hp2
      have i1 : ((j - 1 : Nat) : Int) = (j : Int) - 1 := by omega
      have i2 : ((j : Int) - 1).toNat = j - 1 := by omega
      have i3 : (i : Int) < (n : Int) := by omega
      have i4 : (j : Int) - 1 < (n : Int) := by omega
      have i5 : (0 : Int) ≤ (j : Int) - 1 := by omega
      have fz := HBX.out.z
      obtain ⟨W, hW⟩ : ∃ W, W = (put2 w2 w.heap.size (min x p1, max y p2)).drew := ⟨_, rfl⟩
      have HBW : Hid (Bx W w.heap.size (min x p1, max y p2)) := by rw [hW]; exact (HBX.out.put _).kept ((Kp.refl _).drew)
      have KW : Hid (Kp w W) := by rw [hW]; exact (K2.out.put2 (Nat.le_refl _) _).drew
      have HW : Hid (W = (put2 w2 w.heap.size (min x p1, max y p2)).drew) := hW
      clear hW
      go_wp2_with fail
      go_region
      rw [show ((w2.setCell ⟨w.heap.size, 0, none⟩ (.int .i64 (min x p1))).setCell ⟨w.heap.size, 1, none⟩ (.int .i64 (max y p2))).drew = W from HW.out.symm]
      obtain ⟨m1, hm1⟩ : ∃ m1, m1 = min x p1 := ⟨_, rfl⟩
      obtain ⟨m2, hm2⟩ : ∃ m2, m2 = max y p2 := ⟨_, rfl⟩
      have HMG : Hid ((m1, m2) = mrg l (x, y) i j) := by rw [HMG0.out, hm1, hm2]; rfl
      rw [← hm1, ← hm2] at HBW
      have q2 := HBW.out.c0
      have q3 := HBW.out.c1
      simp only at q2 q3
      clear hm1 hm2 HW HMG0 q0 q1 c0 c1 HBX fz
      have HC : Hid (Calls Try.prog 47 #[.slice (some ⟨W.heap.size + 1, 0, none⟩) 3 3] ((W.alloc (.cells #[.int .i64 m1, .int .i64 m2] 76)).alloc (.cells #[.slice (cutA (some ⟨b, off, none⟩) cap 0) i cap, .slice (some ⟨W.heap.size, 0, none⟩) 1 1, .slice (cutA (some ⟨b, off, none⟩) cap j) (n - j) (cap - j)] 51)).drew (fun e w' => ∃ u B, e = .returned u ∧ Own w' B 76 u (l.take i ++ ([(m1, m2)] ++ l.drop j)) ∧ Kp w w')) := by
        have K3 := ((KW.out.alloc (.cells #[.int .i64 m1, .int .i64 m2] 76)).alloc (.cells #[.slice (cutA (some ⟨b, off, none⟩) cap 0) i cap, .slice (some ⟨W.heap.size, 0, none⟩) 1 1, .slice (cutA (some ⟨b, off, none⟩) cap j) (n - j) (cap - j)] 51)).drew
        refine Calls.mono (concat_any (W.heap.size + 1) (.slice (cutA (some ⟨b, off, none⟩) cap 0) i cap) (.slice (some ⟨W.heap.size, 0, none⟩) 1 1) (.slice (cutA (some ⟨b, off, none⟩) cap j) (n - j) (cap - j)) (l.take i) [(m1, m2)] (l.drop j) _ (HH.out _ K3) ((SpIn.lit1 W (m1, m2) 76).kept (((Kp.refl _).alloc _).drew)) (HT0.out _ K3) (by rw [hti.out]; omega) rfl (by rw [htj.out]; omega) ?_ ?_ ?_) ?_
        iterate 3 (rw [World.cell?_drew, World.cell?_alloc_at _ _ _ _ (by simp)]; rfl)
        rintro e W9 ⟨u9, rfl, ho9, k9⟩
        exact ⟨u9, _, rfl, ho9, K3.trans k9⟩
      clear HH HT0 hti htj
      go_wp2_with fail
      go_region_with (go_at_call 47; refine Calls.mono HC.out ?_; rintro e W9 ⟨u9, B9, rfl, ho9, k9⟩; have HO9 : Hid (Own W9 B9 76 u9 (l.take i ++ ([(m1, m2)] ++ l.drop j)) ∧ Kp w W9) := ⟨ho9, k9⟩; clear ho9 k9)
      all_goals go_wp2
      all_goals go_ret2
      all_goals (
        have hok := add_ok HG.out HS.out HM.out
        have hal : addL l (x, y) i j = l.take i ++ ([(m1, m2)] ++ l.drop j) := by unfold addL; rw [← HMG.out]
        rw [hal] at hok
        exact ⟨_, _, by rw [hz2.out]; rfl, HO9.out.1.sp, HO9.out.2, by have := hok.2.2; omega, fun _ => ⟨hok.1, hok.2.1⟩, fun h => absurd hz2.out h⟩)
    · obtain ⟨m1, hm1⟩ : ∃ m1, m1 = x := ⟨_, rfl⟩
      obtain ⟨m2, hm2⟩ : ∃ m2, m2 = y := ⟨_, rfl⟩
      have HMG : Hid ((m1, m2) = mrg l (x, y) i j) := by rw [hm1, hm2]; exact (if_neg hlt).symm
      have q2 := q0
      have q3 := q1
      rw [← hm1] at q2
      rw [← hm2] at q3
      clear hm1 hm2 q0 q1 HBX
      obtain ⟨W, hW⟩ : ∃ W, W = w2 := ⟨_, rfl⟩
      rw [← hW] at q2 q3 K2 ⊢
      have KW := K2
      clear hW K2
      have HC : Hid (Calls Try.prog 47 #[.slice (some ⟨W.heap.size + 1, 0, none⟩) 3 3] ((W.alloc (.cells #[.int .i64 m1, .int .i64 m2] 76)).alloc (.cells #[.slice (cutA a cap 0) i cap, .slice (some ⟨W.heap.size, 0, none⟩) 1 1, .slice (cutA a cap j) (n - j) (cap - j)] 51)).drew (fun e w' => ∃ u B, e = .returned u ∧ Own w' B 76 u (l.take i ++ ([(m1, m2)] ++ l.drop j)) ∧ Kp w w')) := by
        have K3 := ((KW.out.alloc (.cells #[.int .i64 m1, .int .i64 m2] 76)).alloc (.cells #[.slice (cutA a cap 0) i cap, .slice (some ⟨W.heap.size, 0, none⟩) 1 1, .slice (cutA a cap j) (n - j) (cap - j)] 51)).drew
        refine Calls.mono (concat_any (W.heap.size + 1) (.slice (cutA a cap 0) i cap) (.slice (some ⟨W.heap.size, 0, none⟩) 1 1) (.slice (cutA a cap j) (n - j) (cap - j)) (l.take i) [(m1, m2)] (l.drop j) _ (HH.out _ K3) ((SpIn.lit1 W (m1, m2) 76).kept (((Kp.refl _).alloc _).drew)) (HT0.out _ K3) (by rw [hti.out]; omega) rfl (by rw [htj.out]; omega) ?_ ?_ ?_) ?_
        iterate 3 (rw [World.cell?_drew, World.cell?_alloc_at _ _ _ _ (by simp)]; rfl)
        rintro e W9 ⟨u9, rfl, ho9, k9⟩
        exact ⟨u9, _, rfl, ho9, K3.trans k9⟩
      clear HH HT0 hti htj
      go_wp2_with fail
      go_region_with (go_at_call 47; refine Calls.mono HC.out ?_; rintro e W9 ⟨u9, B9, rfl, ho9, k9⟩; have HO9 : Hid (Own W9 B9 76 u9 (l.take i ++ ([(m1, m2)] ++ l.drop j)) ∧ Kp w W9) := ⟨ho9, k9⟩; clear ho9 k9)
      all_goals go_wp2
      all_goals go_ret2
      all_goals (
        have hok := add_ok HG.out HS.out HM.out
        have hal : addL l (x, y) i j = l.take i ++ ([(m1, m2)] ++ l.drop j) := by unfold addL; rw [← HMG.out]
        rw [hal] at hok
        exact ⟨_, _, by rw [hz2.out]; rfl, HO9.out.1.sp, HO9.out.2, by have := hok.2.2; omega, fun _ => ⟨hok.1, hok.2.1⟩, fun h => absurd hz2.out h⟩)
  · have HR0 : Hid (rfE l (x, y) ≠ 0) := hz
    obtain ⟨E, hE⟩ : ∃ E, E = rfE l (x, y) := ⟨_, rfl⟩
    have HE : Hid (E = rfE l (x, y)) := hE
    rw [← hE] at hR hz
    clear hE
    unfold spV at hR ⊢
    go_enter Try.func33, Try.ntmps33
    go_wp2_with fail
    rw [show w.alloc (.cells #[.int .i64 x, .int .i64 y] 76) = w0 from HW.out.symm]
    clear HW
    refine hR.mono ?_; rintro e w1 ⟨rfl, k1⟩
    clear hR q0 q1
    go_wp2
    go_ret2
    exact ⟨_, [], by rw [← HE.out]; rfl, SpIn.nil _, k0.trans k1, by simp, fun h => absurd h HR0.out, fun _ => rfl⟩

end Go.Proofs.Ytdfdoinhkjoalaa
