/-
  Contracts of the document's Replace, Flush. Conditions: that the member lies in memory.
-/
import Derived.Test.YtmklkdopmemfaaaMmRef3
namespace Go.Proofs.Ytmklkdopmemfaaa
open Go.RowKit Plain
set_option linter.unusedVariables false

set_option maxRecDepth 100000 in
set_option maxHeartbeats 1000000 in
theorem rreplace_any {w : World} {r gs cap : Nat} {wv : Value} {S : MS} (h : RefIn w r gs cap wv S) : Calls Try.prog 37 #[.pointer (some ⟨r, 0, none⟩)] w fun e w' => e = .returned (.tuple #[]) ∧ Rd w w' r gs wv (rp S) := by
  obtain ⟨n, hn⟩ : ∃ n, n = S.las.length := ⟨_, rfl⟩
  have hb := blank_any n (by rw [hn]; exact h.fine.n1) (by rw [hn]; exact h.fine.n2) w
  have c0 := h.c0
  rw [← hn] at c0
  have erp : rp S = ⟨List.replicate n z64, List.replicate n z64, [], false, up S.c 3⟩ := by unfold rp; rw [← hn]
  rw [erp]
  have n1 : 1 ≤ n := by rw [hn]; exact h.fine.n1
  have n2 : n ≤ 256 := by rw [hn]; exact h.fine.n2
  have H := hid h
  clear hn erp h
  go_enter Try.func37, Try.ntmps37
  go_wp2_with fail
  refine hb.mono ?_
  rintro e w1 ⟨v, rfl, hs, k1⟩
  obtain ⟨g, c, rfl, q1, q2, q3, q4, q5, q6⟩ := hs.h
  have H1 := H.out.kp k1
  have d0 := H1.c0
  have d1 := H1.c1
  have d2 := H1.c2
  have z0 := H1.z 0
  have z1 := H1.z 1
  have z2 := H1.z 2
  have hrg : g ≠ r := by have := H.out.hr; omega
  obtain ⟨W, hW⟩ : ∃ W, W = ((w1.setCell ⟨r, 0, none⟩ (.slice (some ⟨g, 0, none⟩) n c)).setCell ⟨r, 1, none⟩ (.slice none 0 0)).setCell ⟨r, 2, none⟩ (.bool false) := ⟨_, rfl⟩
  have kW : Sp [r] w1 W := by rw [hW]; exact (((Sp.refl [r] w1).set r 0 (by simp) _).set r 1 (by simp) _).set r 2 (by simp) _
  have hgT : g ∉ [r] := by simpa using hrg
  have M3 : RefIn W r g c (.slice none 0 0) ⟨List.replicate n z64, List.replicate n z64, [], false, S.c⟩ := by
    refine RefIn.fresh (Nat.lt_of_lt_of_le H1.hr kW.size) (Nat.lt_of_lt_of_le q4 kW.size) ?_ ?_ ?_ S.c (fun j hj => ?_) (fun o => (by rw [hW]; simp [World.frozen?_setCell, H1.z o])) (fun i hi => kW.held (q5 i hi) hgT) (fun i => (kW.frozen q4 hgT i).trans (q6 i)) q1 q2 hrg n1 n2
    · rw [hW, cell_off _ _ _ _ _ (by omega), cell_off _ _ _ _ _ (by omega)]; exact World.cell?_setCell_same _ _ _ d0
    · rw [hW, cell_off _ _ _ _ _ (by omega)]; exact World.cell?_setCell_same _ _ _ (by rw [cell_off _ _ _ _ _ (by omega)]; exact d1)
    · rw [hW]; exact World.cell?_setCell_same _ _ _ (by rw [cell_off _ _ _ _ _ (by omega), cell_off _ _ _ _ _ (by omega)]; exact d2)
    · rw [hW, cell_off _ _ _ _ _ (by omega), cell_off _ _ _ _ _ (by omega), cell_off _ _ _ _ _ (by omega)]; exact H1.cn j hj
  have SS : Sp (rblk r gs wv) w W := (k1.sp _).trans kW.rr
  have NN : Nw w (rblk r gs wv) (rblk r g (.slice none 0 0)) := fun t ht => by
    simp [rblk, Value.ownBlock] at ht
    rcases ht with rfl | rfl
    · exact .inl (by simp [rblk])
    · exact .inr q3
  have HW := hid hW
  have HSS := hid SS
  have HNN := hid NN
  clear hW kW hs q5 q6 H H1 SS NN hb
  go_wp2_with fail
  have hW' : ((w1.setCell ⟨r, 0, none⟩ (.slice (some ⟨g, 0, none⟩) n c)).setCell ⟨r, 1, none⟩ (.slice none 0 0)).setCell ⟨r, 2, none⟩ (.bool false) = W := HW.out.symm
  rw [hW']
  clear hW' HW d0 d1 d2 z0 z1 z2
  have cc4 := M3.cn 3 (by omega)
  have zz4 := M3.z 6
  try simp only at cc4
  have HM3 := hid M3
  have hwp := wrap_up ((⟨List.replicate n z64, List.replicate n z64, [], false, S.c⟩ : MS).c 3)
  try simp only at hwp
  obtain ⟨C1, hC1⟩ : ∃ C1, C1 = wrap64 ((⟨List.replicate n z64, List.replicate n z64, [], false, S.c⟩ : MS).c 3 + 1) := ⟨_, rfl⟩
  try simp only at hC1
  rw [← hC1] at hwp
  have HC1 := hid hC1
  obtain ⟨C0, hC0⟩ : ∃ C0, C0 = (⟨List.replicate n z64, List.replicate n z64, [], false, S.c⟩ : MS).c 3 := ⟨_, rfl⟩
  try simp only at hC0
  rw [← hC0] at cc4 hwp HC1
  have HC0 := hid hC0
  clear hC1 hC0 M3
  go_wp2_with fail
  go_region
  have M5 := (HM3.out.kp (Kp.refl W).drew).count 3 (by omega)
  have S5 : Sp [r] W (W.drew.setCell ⟨r, 3 + 3, none⟩ (.int .i64 C1)) := ((Kp.refl W).drew.sp [r]).trans ((Sp.refl [r] _).set r _ (by simp) _)
  rw [show wrap64 ((⟨List.replicate n z64, List.replicate n z64, [], false, S.c⟩ : MS).c 3 + 1) = C1 from by rw [HC1.out, HC0.out]] at M5
  go_wp2
  go_end0
  exact ⟨rfl, _, _, _, M5, HSS.out.trans S5.rr, HNN.out⟩
set_option maxRecDepth 100000 in
set_option maxHeartbeats 1000000 in
theorem rflush_any {w : World} {r gs cap : Nat} {wv : Value} {S : MS} (h : RefIn w r gs cap wv S) : Calls Try.prog 57 #[.pointer (some ⟨r, 0, none⟩)] w fun e w' => e = .returned (.int .i64 (flE S)) ∧ Rd w w' r gs wv (fl S) := by
  cases hd : S.dead with
  | true =>
    rw [show flE S = 22 from if_pos hd, show fl S = S from if_pos hd]
    have c2 := h.c2
    rw [hd] at c2
    have hR : Rd w w r gs wv S := ⟨gs, cap, wv, h, Sp.refl _ _, Nw.refl _ _⟩
    clear h
    go_enter Try.func57, Try.ntmps57
    go_wp2
    go_ret
    exact ⟨rfl, hR⟩
  | false =>
    rw [show flE S = 0 from if_neg (by simp [hd]), show fl S = ⟨S.now, pl S.las S.row, [], S.dead, up S.c 2⟩ from if_neg (by simp [hd])]
    have c2 := h.c2
    rw [hd] at c2
    obtain ⟨a, cc, rfl, hn1, hn2⟩ := h.wl
    obtain ⟨n, hn⟩ : ∃ n, n = S.row.length := ⟨_, rfl⟩
    rw [← hn] at h hn1 ⊢
    have HN := hid hn
    have H := hid h
    clear hn h
    go_enter Try.func57, Try.ntmps57
    go_wp2_with fail
    clear c2
    go_loopw [3] (fun i wr => ∃ k : Nat, k ≤ n ∧ i = .int .i64 k ∧ Hid (RefIn wr r gs cap (.slice a n cc) ⟨S.now, pl S.las (S.row.take k), S.row, S.dead, S.c⟩) ∧ Hid (Sp [gs] w wr)) (fun i _ => n - (intOf i).toNat)
    case atStart => exact ⟨0, by omega, by go_num, H, Sp.refl _ _⟩
    case round =>
      clear H
      obtain ⟨k, hk, rfl, HM, HS⟩ := hrel
      have c1 := HM.out.c1
      by_cases hlt : k < n
      · obtain ⟨g, c', hv, hat⟩ := HM.out.wat (show 0 < S.row.length by rw [← HN.out]; omega)
        simp only at hv hat
        obtain rfl : a = some ⟨g, 0, none⟩ := by simp only [Value.slice.injEq] at hv; exact hv.1
        have hks : k < S.row.length := by rw [← HN.out]; exact hlt
        obtain ⟨d0, d1⟩ := hat k hks
        have hpt := pl_take S.las S.row k hks
        have hpb := HM.out.fine.br (S.row.getD k (0, noS)) (by rw [List.getD_eq_getElem?_getD, List.getElem?_eq_getElem hks]; exact List.getElem_mem hks)
        obtain ⟨p, hp⟩ : ∃ p, p = S.row.getD k (0, noS) := ⟨_, rfl⟩
        rw [← hp] at d0 d1 hpt hpb
        obtain ⟨x, y⟩ := p
        simp only at d0 d1 hpt hpb
        have M5 := HM.out.sector x hpb.1 y hpb.2
        simp only at M5
        rw [← hpt] at M5
        have c0 := HM.out.c0
        have cs := HM.out.s x hpb.1
        have zs := HM.out.sz x
        have kc1 := HM.out.k1
        have kc2 := HM.out.k2
        simp only at c0 kc1
        obtain ⟨m, hm⟩ : ∃ m, m = (pl S.las (S.row.take k)).length := ⟨_, rfl⟩
        rw [← hm] at c0 kc1
        have hxm : (x : Int) < (m : Int) := by rw [hm]; have := hpb.1; omega
        have hxl := hpb.1
        have hyl := hpb.2
        have hRb := HM.out.hr
        obtain ⟨cv, hcv⟩ : ∃ cv, cv = Value.string ((pl S.las (S.row.take k)).getD x noS) := ⟨_, rfl⟩
        rw [show some (Value.string ((({ now := S.now, las := pl S.las (List.take k S.row), row := S.row, dead := S.dead, c := S.c } : MS).las).getD x noS)) = some cv from by rw [hcv]] at cs
        have HPT := hid hpt
        clear hp hv hat hpt hpb hm hcv M5
        have q1 := kpw_cell c0
        have q2 := kpw_cell c1
        have q3 := kpw_cell d0
        have q4 := kpw_cell d1
        have hkn : (k : Int) < (n : Int) := by omega
        go_wp2_with fail
        refine wp_region_tailc2 rfl (by kernel_rfl) (by kernel_rfl) (by kernel_rfl) ?_
        simp only [List.dropLast]
        repeat (first
          | go_big_quiet_skip
          | (go_big_quiet_want; go_big_quiet_op; go_big_quiet_on))
        refine wpQuiet_nil ?_
        rintro w9 ⟨q, hp9⟩
        have kD : Kp wr w9 := by rw [hp9]; exact kpw_kp wr q
        have M9 := HM.out.kp kD
        have M5 := M9.sector x hxl y hyl
        simp only at M5
        rw [← HPT.out] at M5
        have S5 : Sp [gs] w (w9.setCell ⟨gs, x, none⟩ (.string y)) := (HS.out.trans (kD.sp [gs])).set gs x (by simp) _
        have cs9 := M9.s x hxl
        have zs9 := M9.sz x
        have HM5 := hid M5
        have HS5 := hid S5
        clear hp9 q1 q2 q3 q4 M9 M5 S5 HM HS kD
        go_wp2
        go_roundw
        case rel => exact ⟨k + 1, by omega, by go_num, HM5, HS5⟩
        case measure => simp [intOf]; omega
      · obtain rfl : k = n := by omega
        rw [show S.row.take k = S.row by rw [HN.out, List.take_length]] at HM
        have hkn : ¬ (k : Int) < (k : Int) := by omega
        have z1 := HM.out.z 1
        have M3 := HM.out.row (Sp.refl _ _) (.slice none 0 0) [] (World.ownsRow_nil _ _ _ _) (fun g hg => by cases hg) (fun p hp => by cases hp)
        obtain ⟨W, hW⟩ : ∃ W, W = wr.setCell ⟨r, 1, none⟩ (.slice none 0 0) := ⟨_, rfl⟩
        rw [← hW] at M3
        have SW : Sp (rblk r gs (.slice a k cc)) w W := by rw [hW]; exact HS.out.rg.trans ((Sp.refl [r] _).set r 1 (by simp) _).rr
        simp only at M3
        have HSW := hid SW
        have HW := hid hW
        have HM3 := hid M3
        clear hW SW M3 HM HS
        go_wp2_with fail
        rw [show wr.setCell ⟨r, 1, none⟩ (.slice none 0 0) = W from HW.out.symm]
        clear HW z1 c1
        have M3 := HM3.out
        clear HM3
        have cc4 := M3.cn 2 (by omega)
        have zz4 := M3.z 5
        try simp only at cc4
        have HM3 := hid M3
        have hwp := wrap_up ((⟨S.now, pl S.las S.row, [], S.dead, S.c⟩ : MS).c 2)
        try simp only at hwp
        obtain ⟨C1, hC1⟩ : ∃ C1, C1 = wrap64 ((⟨S.now, pl S.las S.row, [], S.dead, S.c⟩ : MS).c 2 + 1) := ⟨_, rfl⟩
        try simp only at hC1
        rw [← hC1] at hwp
        have HC1 := hid hC1
        obtain ⟨C0, hC0⟩ : ∃ C0, C0 = (⟨S.now, pl S.las S.row, [], S.dead, S.c⟩ : MS).c 2 := ⟨_, rfl⟩
        try simp only at hC0
        rw [← hC0] at cc4 hwp HC1
        have HC0 := hid hC0
        clear hC1 hC0 M3
        go_wp2_with fail
        go_region
        have M5 := (HM3.out.kp (Kp.refl W).drew).count 2 (by omega)
        have S5 : Sp [r] W (W.drew.setCell ⟨r, 3 + 2, none⟩ (.int .i64 C1)) := ((Kp.refl W).drew.sp [r]).trans ((Sp.refl [r] _).set r _ (by simp) _)
        rw [show wrap64 ((⟨S.now, pl S.las S.row, [], S.dead, S.c⟩ : MS).c 2 + 1) = C1 from by rw [HC1.out, HC0.out]] at M5
        go_wp2
        go_ret
        rw [hd] at M5
        exact ⟨rfl, _, _, _, M5, HSW.out.trans S5.rr, nw_rnone _ _ _ _⟩

end Go.Proofs.Ytmklkdopmemfaaa
