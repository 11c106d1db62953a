/-
  Contract of the laws' same; both turns in memory side by side (Pz), and a block beside them (Pb). Conditions: that the objects lie in memory as TX and RX say, one beside the other.
-/
import Derived.Test.YteiangakgfekgaaTuROrd
import Derived.Test.YteiangakgfekgaaTuTail
import Derived.Deep.RegionHeld3
namespace Go.Proofs.Yteiangakgfekgaa
open Go.RowKit Plain
set_option linter.unusedVariables false
set_option linter.unusedSimpArgs false

theorem Rl.at_dear {S : TS} {R : RS} (h : Rl S R) {y : RK} (hy : y ∈ R.L) : decide (y.n ∈ S.D) = y.d := by
  obtain ⟨PL, DL, q, e1, e2⟩ := h.h
  have hnd := (q.pm.map RK.n).nodup_iff.2 q.nd
  rw [List.map_append, List.nodup_append] at hnd
  rw [← e2]
  rcases List.mem_append.1 (q.pm.mem_iff.2 hy) with hp | hp
  · rw [q.fp y hp]
    exact decide_eq_false (fun hm => hnd.2.2 y.n (List.mem_map.2 ⟨y, hp, rfl⟩) y.n hm rfl)
  · rw [q.fd y hp]
    exact decide_eq_true (List.mem_map.2 ⟨y, hp, rfl⟩)
set_option maxRecDepth 100000 in
set_option maxHeartbeats 8000000 in
theorem same_any {w0 w : World} {t r : Nat} {T1 T2 : List Nat} {S : TS} {R : RS} (h1 : TX w0 w t T1 S) (h2 : RX w0 w r T2 R) (hg : Gd S) (hr : Rl S R) (k : Int) : Calls Try.prog 21 #[.pointer (some ⟨t, 0, none⟩), .pointer (some ⟨r, 0, none⟩), .int .i64 k] w fun e w' => e = .returned (.bool true) ∧ Kp w w' := by
  have hlen := hr.len
  have hl : R.L.length ≤ 64 := by have := hg.len; have := hg.m2; omega
  have hL := len_any h1 hg
  obtain ⟨n, hn⟩ : ∃ n, n = R.L.length := ⟨_, rfl⟩
  have hpn : (S.P.length : Int) + (S.D.length : Int) = (n : Int) := by omega
  obtain ⟨d, hd⟩ : ∃ d, d = S.D.length := ⟨_, rfl⟩
  rw [hpn, ← hd] at hL
  have HH := hid (And.intro h1 (And.intro h2 (And.intro hg (And.intro hr (And.intro hn (And.intro hpn (And.intro hd hl)))))))
  have hn64 : n ≤ 64 := by omega
  have hd64 : d ≤ 64 := by have := hg.len; have := hg.m2; omega
  clear h1 h2 hg hr hlen hl hn hpn hd
  go_enter Try.func21, Try.ntmps21
  go_wp2_with fail
  refine hL.mono ?_; rintro e w1 ⟨rfl, k1⟩
  have hV := victim_any (HH.out.1.kept k1) HH.out.2.2.1
  have K1 := hid k1
  clear hL k1
  go_wp2_with fail
  refine hV.mono ?_; rintro e w2 ⟨rfl, k2⟩
  have K2 := hid (K1.out.trans k2)
  have hV2 := rvictim_any (HH.out.2.1.kept K2.out) HH.out.2.2.2.1 HH.out.2.2.1
  obtain ⟨vk, hvk⟩ : ∃ x, x = vcK S := ⟨_, rfl⟩
  obtain ⟨vo, hvo⟩ : ∃ x, x = (vcO S).isSome := ⟨_, rfl⟩
  rw [← hvk, ← hvo] at hV2 ⊢
  clear hV k2 K1 hvk hvo
  go_wp2_with fail
  refine hV2.mono ?_; rintro e w3 ⟨rfl, k3⟩
  have K3 := hid (K2.out.trans k3)
  have hHas := has_any (HH.out.1.kept K3.out) HH.out.2.2.1 k
  clear hV2 k3 K2
  go_wp2_with fail
  refine hHas.mono ?_; rintro e w4 ⟨rfl, rfl⟩
  have hF := rfind_any (HH.out.2.1.kept K3.out) (by have := HH.out.2.2.2.2.2.2.2; omega) k
  clear hHas
  go_wp2_with fail
  refine hF.mono ?_; rintro e w5 ⟨z, rfl, hz, rfl⟩
  clear hF
  have hX := HH.out.2.1.kept K3.out
  have hl64 := HH.out.2.2.2.2.2.2.2
  have HDr : Hid (∀ V, Kp w5 V → Calls Try.prog 31 #[.pointer (some ⟨r, 0, none⟩)] V fun e w' => e = .returned (.int .i64 (d : Int)) ∧ Kp w5 w') := fun V k => by
    have h := rdear_any (hX.kept k) (by omega)
    rw [HH.out.2.2.2.1.dear, ← HH.out.2.2.2.2.2.2.1] at h
    exact h.mono (fun e w' q => ⟨q.1, by rw [q.2]; exact k⟩)
  have hXt := HH.out.1.kept K3.out
  obtain ⟨m, hm⟩ : ∃ m, m = R.M := ⟨_, rfl⟩
  have HFu : Hid (∀ V, Kp w5 V → Calls Try.prog 14 #[.pointer (some ⟨t, 0, none⟩)] V fun e w' => e = .returned (.bool (decide (m ≤ (n : Int)))) ∧ Kp w5 w') := fun V k => by
    have h := full_any (hXt.kept k) HH.out.2.2.1
    rw [HH.out.2.2.2.2.2.1, ← HH.out.2.2.2.1.M, ← hm] at h
    exact h.mono (fun e w' q => ⟨q.1, k.trans q.2⟩)
  obtain ⟨l, hl⟩ : ∃ l, l = S.P ++ S.D := ⟨_, rfl⟩
  have hll : l.length ≤ 64 := by have h1 := HH.out.2.2.1.len; have h2 := HH.out.2.2.1.m2; rw [hl, List.length_append]; omega
  have HO : Hid (∀ V, Kp w5 V → Calls Try.prog 15 #[.pointer (some ⟨t, 0, none⟩)] V fun e w' => ∃ v, e = .returned v ∧ InI w' v l ∧ Kp w5 w' ∧ Kp V w') := fun V k => by
    have h := order_any (hXt.kept k) HH.out.2.2.1
    rw [← hl] at h
    exact h.mono (fun e w' ⟨v, q1, q2, q3⟩ => ⟨v, q1, q2.ints, k.trans q3, q3⟩)
  have HO2 : Hid (∀ V, Kp w5 V → Calls Try.prog 34 #[.pointer (some ⟨r, 0, none⟩)] V fun e w' => ∃ v, e = .returned v ∧ InI w' v l ∧ Kp w5 w' ∧ Kp V w') := fun V k => by
    have h := rorder_any (hX.kept k) HH.out.2.2.2.1 HH.out.2.2.1
    rw [← hl] at h
    exact h.mono (fun e w' ⟨v, q1, q2, q3⟩ => ⟨v, q1, q2.ints, k.trans q3, q3⟩)
  have HE : Hid (∀ V v1 v2, Kp w5 V → InI V v1 l → InI V v2 l → Calls Try.prog 25 #[v1, v2] V fun e w' => e = .returned (.bool true) ∧ Kp w5 w') := fun V v1 v2 k i1 i2 => by
    have h := equal_any v1 v2 l l V i1 i2 (by omega) (by omega)
    rw [decide_eq_true (rfl : l = l)] at h
    exact h.mono (fun e w' q => ⟨q.1, k.trans q.2⟩)
  obtain ⟨v, hT, hB⟩ := hX
  obtain ⟨c0, _, c2, _, _⟩ := hB.cells
  obtain ⟨p, c, rfl, q1, q2⟩ := hB.o.shape
  obtain ⟨_, g, hp, _, hcs, _⟩ := hB.o.cells
  rw [← hm] at c0
  rw [← HH.out.2.2.2.2.1] at c2 q1 hp hcs
  have hkey : (z = -1 ∧ inT S k = false ∧ decide (k ∈ S.D) = false) ∨ ∃ (j : Nat) (b : Bool), z = (j : Int) ∧ j < n ∧ inT S k = true ∧ decide (k ∈ S.D) = b ∧ p = some ⟨g, 0, none⟩ ∧ w5.cell? ⟨g, j * 4 + 1, none⟩ = some (.bool b) := by
    rcases fr_in HH.out.2.2.2.1 hz with ⟨rfl, hin⟩ | ⟨hz0, hin, A, y, B, e1, rfl, hy⟩
    · refine .inl ⟨rfl, hin, decide_eq_false (fun h => in_not.1 hin (List.mem_append_right _ h))⟩
    · have hA : A.length < n := by rw [HH.out.2.2.2.2.1, e1]; simp
      have hd := (hcs A.length hA).2.1
      have hat : R.L.getD A.length rk0 = y := by rw [e1]; simp [List.getD_eq_getElem?_getD]
      rw [hat] at hd
      refine .inr ⟨A.length, y.d, rfl, hA, hin, ?_, hp (by omega), hd⟩
      rw [← hy]
      exact HH.out.2.2.2.1.at_dear (by rw [e1]; simp)
  have HK := hid hkey
  have hKd : Kp w5 w5.drew := (Kp.refl w5).drew
  have hKr : Kp w5 w5 := Kp.refl w5
  have mixed : Try.prog.follows .mixedOrders = true := by kernel_rfl
  clear hz hT hB hp hcs hm hkey hXt hl hll hl64
  have hq1 : ∀ p, Calls Try.prog 31 #[.pointer (some ⟨r, 0, none⟩)] (kpw w5 p) fun e w' => e = .returned (.int .i64 (d : Int)) ∧ ∃ p, w' = kpw w5 p := fun p => (HDr.out _ (kpw_kp _ p)).mono (fun e w' q => ⟨q.1, kpw_of q.2⟩)
  have hq2 : ∀ p, Calls Try.prog 14 #[.pointer (some ⟨t, 0, none⟩)] (kpw w5 p) fun e w' => e = .returned (.bool (decide (m ≤ (n : Int)))) ∧ ∃ p, w' = kpw w5 p := fun p => (HFu.out _ (kpw_kp _ p)).mono (fun e w' q => ⟨q.1, kpw_of q.2⟩)
  have z0 := kpw_cell c0
  have z2 := kpw_cell c2
  rcases HK.out with ⟨rfl, e1, e2⟩ | ⟨j, b, rfl, hj, e1, e2, rfl, d1⟩
  · rw [e1, e2]
    clear e1 e2 HK
    go_wp2_with fail
    simp only [List.append]
    refine wp_region_pre _ 61 (by kernel_rfl) (by kernel_rfl) (by kernel_rfl) ?_
    simp only [List.take, List.drop, List.length_cons, List.length_nil]
    repeat (first
      | go_big_quiet_skip
      | (go_big_quiet_want; go_big_quiet_op; go_big_quiet_on)
      | (go_big_quiet_want; go_big_quiet_op; apply Exists.intro; refine ⟨fun p => ?_, ?_⟩; (focus (first
          | (go_at_call 31; with_reducible exact hq1 _)
          | (go_at_call 14; with_reducible exact hq2 _))); go_big_quiet_on))
    refine wpQuiet_nil ?_
    rintro w6 ⟨p6, hp6⟩
    have k6 : Kp w5 w6 := by rw [hp6]; exact kpw_kp _ p6
    clear hp6 hq1 hq2 z0 z2
    refine wpAny_take (i := 61) (v := .pointer (some ⟨t, 0, none⟩)) rfl (by kernel_rfl) (by kernel_rfl) (by kernel_rfl) (fun _ _ _ h => h) (Or.inl ⟨by rfl, fun _ => rfl⟩) ?_
    simp only [Act.put, List.setIfInBounds_toArray, List.set_cons_zero, List.set_cons_succ]
    refine wpAny_take (i := 63) (v := .pointer (some ⟨r, 0, none⟩)) rfl (by kernel_rfl) (by kernel_rfl) (by kernel_rfl) (fun _ _ _ h => h) (Or.inl ⟨by rfl, fun _ => rfl⟩) ?_
    simp only [Act.put, List.setIfInBounds_toArray, List.set_cons_zero, List.set_cons_succ]
    refine wpAny_ready (rs := [62]) (by kernel_rfl) (by simp) ?_
    refine AllReady.cons rfl (fun K hK => ?_) AllReady.nil
    rw [if_pos (by rfl)]
    go_simp
    refine (HO.out _ k6).mono ?_; rintro e w7 ⟨v1, rfl, o1, k7, k7b⟩
    simp only []
    refine hK _ _ ?_
    clear hK K
    simp only [Act.put, List.setIfInBounds_toArray, List.set_cons_zero, List.set_cons_succ]
    refine wpAny_ready (rs := [64]) (by kernel_rfl) (by simp) ?_
    refine AllReady.cons rfl (fun K hK => ?_) AllReady.nil
    rw [if_pos (by rfl)]
    go_simp
    refine (HO2.out _ k7).mono ?_; rintro e w8 ⟨v2, rfl, o2, k8, k8b⟩
    simp only []
    refine hK _ _ ?_
    clear hK K
    simp only [Act.put, List.setIfInBounds_toArray, List.set_cons_zero, List.set_cons_succ]
    refine wpAny_ready (rs := [65]) (by kernel_rfl) (by simp) ?_
    refine AllReady.cons rfl (fun K hK => ?_) AllReady.nil
    rw [if_pos (by rfl)]
    go_simp
    refine (HE.out _ _ _ k8 (o1.kept k8b) o2).mono ?_; rintro e w9 ⟨rfl, k9⟩
    simp only []
    refine hK _ _ ?_
    clear hK K
    simp only [Act.put, List.setIfInBounds_toArray, List.set_cons_zero, List.set_cons_succ]
    refine wpAny_ready (rs := [66]) (by kernel_rfl) (by simp) ?_
    refine AllReady.cons rfl (fun K hK => ?_) AllReady.nil
    rw [if_pos (by rfl)]
    go_simp
    refine hK _ _ ?_
    clear hK K
    simp only [Act.put, List.setIfInBounds_toArray, List.set_cons_zero, List.set_cons_succ]
    refine wpAny_ready (rs := [67]) (by kernel_rfl) (by simp) ?_
    refine AllReady.cons rfl (fun K hK => ?_) AllReady.nil
    rw [if_pos (by rfl)]
    go_simp
    refine hK _ _ ?_
    clear hK K
    simp only [Act.put, List.setIfInBounds_toArray, List.set_cons_zero, List.set_cons_succ]
    refine wpAny_done (by kernel_rfl) ?_ _
    have HK9 := hid (K3.out.trans k9)
    clear k6 k7 k7b k8 k8b k9 o1 o2
    go_wp2
    go_ret
    exact ⟨by simp, HK9.out⟩
  · have z3 := kpw_cell d1
    rw [e1, e2]
    have hj3 : (j : Int) < (n : Int) := by omega
    have hj4 : decide ((0 : Int) ≤ (j : Int)) = true := by simp
    have hj5 : (0 : Int) ≤ (j : Int) := by omega
    clear e1 e2 HK
    go_wp2_with fail
    simp only [List.append]
    refine wp_region_pre _ 61 (by kernel_rfl) (by kernel_rfl) (by kernel_rfl) ?_
    simp only [List.take, List.drop, List.length_cons, List.length_nil]
    repeat (first
      | go_big_quiet_skip
      | (go_big_quiet_want; go_big_quiet_op; go_big_quiet_on)
      | (go_big_quiet_want; go_big_quiet_op; apply Exists.intro; refine ⟨fun p => ?_, ?_⟩; (focus (first
          | (go_at_call 31; with_reducible exact hq1 _)
          | (go_at_call 14; with_reducible exact hq2 _))); go_big_quiet_on))
    refine wpQuiet_nil ?_
    rintro w6 ⟨p6, hp6⟩
    have k6 : Kp w5 w6 := by rw [hp6]; exact kpw_kp _ p6
    clear hp6 hq1 hq2 z0 z2 z3
    refine wpAny_take (i := 61) (v := .pointer (some ⟨t, 0, none⟩)) rfl (by kernel_rfl) (by kernel_rfl) (by kernel_rfl) (fun _ _ _ h => h) (Or.inl ⟨by rfl, fun _ => rfl⟩) ?_
    simp only [Act.put, List.setIfInBounds_toArray, List.set_cons_zero, List.set_cons_succ]
    refine wpAny_take (i := 63) (v := .pointer (some ⟨r, 0, none⟩)) rfl (by kernel_rfl) (by kernel_rfl) (by kernel_rfl) (fun _ _ _ h => h) (Or.inl ⟨by rfl, fun _ => rfl⟩) ?_
    simp only [Act.put, List.setIfInBounds_toArray, List.set_cons_zero, List.set_cons_succ]
    refine wpAny_ready (rs := [62]) (by kernel_rfl) (by simp) ?_
    refine AllReady.cons rfl (fun K hK => ?_) AllReady.nil
    rw [if_pos (by rfl)]
    go_simp
    refine (HO.out _ k6).mono ?_; rintro e w7 ⟨v1, rfl, o1, k7, k7b⟩
    simp only []
    refine hK _ _ ?_
    clear hK K
    simp only [Act.put, List.setIfInBounds_toArray, List.set_cons_zero, List.set_cons_succ]
    refine wpAny_ready (rs := [64]) (by kernel_rfl) (by simp) ?_
    refine AllReady.cons rfl (fun K hK => ?_) AllReady.nil
    rw [if_pos (by rfl)]
    go_simp
    refine (HO2.out _ k7).mono ?_; rintro e w8 ⟨v2, rfl, o2, k8, k8b⟩
    simp only []
    refine hK _ _ ?_
    clear hK K
    simp only [Act.put, List.setIfInBounds_toArray, List.set_cons_zero, List.set_cons_succ]
    refine wpAny_ready (rs := [65]) (by kernel_rfl) (by simp) ?_
    refine AllReady.cons rfl (fun K hK => ?_) AllReady.nil
    rw [if_pos (by rfl)]
    go_simp
    refine (HE.out _ _ _ k8 (o1.kept k8b) o2).mono ?_; rintro e w9 ⟨rfl, k9⟩
    simp only []
    refine hK _ _ ?_
    clear hK K
    simp only [Act.put, List.setIfInBounds_toArray, List.set_cons_zero, List.set_cons_succ]
    refine wpAny_ready (rs := [66]) (by kernel_rfl) (by simp) ?_
    refine AllReady.cons rfl (fun K hK => ?_) AllReady.nil
    rw [if_pos (by rfl)]
    go_simp
    refine hK _ _ ?_
    clear hK K
    simp only [Act.put, List.setIfInBounds_toArray, List.set_cons_zero, List.set_cons_succ]
    refine wpAny_ready (rs := [67]) (by kernel_rfl) (by simp) ?_
    refine AllReady.cons rfl (fun K hK => ?_) AllReady.nil
    rw [if_pos (by rfl)]
    go_simp
    refine hK _ _ ?_
    clear hK K
    simp only [Act.put, List.setIfInBounds_toArray, List.set_cons_zero, List.set_cons_succ]
    refine wpAny_done (by kernel_rfl) ?_ _
    have HK9 := hid (K3.out.trans k9)
    clear k6 k7 k7b k8 k8b k9 o1 o2
    go_wp2
    go_ret
    exact ⟨by simp, HK9.out⟩

end Go.Proofs.Yteiangakgfekgaa
