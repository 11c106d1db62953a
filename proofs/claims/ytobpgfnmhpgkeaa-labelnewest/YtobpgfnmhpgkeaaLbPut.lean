/-
  The contract of label's Put. Conditions: that the label's lists lie in memory.
-/
import Derived.Test.YtobpgfnmhpgkeaaLbGood
import Derived.Test.YtobpgfnmhpgkeaaLbByt
import Derived.Deep.RegionWith
import Derived.Deep.RegionHeld3
import Derived.Deep.DeepCutAuto
namespace Go.Proofs.Ytobpgfnmhpgkeaa
open Go.RowKit Plain
set_option linter.unusedVariables false

/-- the sector behind the bytes of the first k members. -/
def stg (L : LB) (k i : Nat) : Nat := if i < 14 then pb L i else if i < 14 + k then mb L (i - 14) else 0
theorem stg_step (L : LB) (k i : Nat) : (if i = 14 + k then mb L k else stg L k i) = stg L (k + 1) i := by
  unfold stg
  by_cases h : i = 14 + k
  · rw [if_pos h, if_neg (by omega), if_pos (by omega), h, show 14 + k - 14 = k by omega]
  · rw [if_neg h]
    by_cases h1 : i < 14
    · rw [if_pos h1, if_pos h1]
    · rw [if_neg h1, if_neg h1]
      by_cases h2 : i < 14 + k
      · rw [if_pos h2, if_pos (by omega)]
      · rw [if_neg h2, if_neg (by omega)]
theorem stg_all (L : LB) (i : Nat) (h : i < 46) : stg L L.sts.length i = pb L i := by
  unfold stg
  by_cases h1 : i < 14
  · rw [if_pos h1]
  · rw [if_neg h1]
    unfold pb
    rw [if_neg (show ¬ i < 4 by omega), if_neg (show ¬ i < 12 by omega), if_neg (show ¬ i = 12 by omega), if_neg (show ¬ i = 13 by omega)]
theorem stg_past (L : LB) (hl : L.sts.length ≤ 32) (i : Nat) (h : 46 ≤ i) : stg L L.sts.length i = 0 := by
  unfold stg
  rw [if_neg (by omega), if_neg (by omega)]
theorem stg_zero (L : LB) (i : Nat) : stg L 0 i = (if i = 13 then L.s.toNat else if i = 12 then L.n.toNat else laid (fun i => if i < 4 then tr i else 0) 4 8 L.ep.toNat i) := by
  unfold stg laid pb
  by_cases h1 : i < 4
  · rw [if_pos (by omega), if_pos h1, if_neg (by omega), if_neg (by omega), if_neg (by omega)]; exact (if_pos h1).symm
  · by_cases h2 : i < 12
    · rw [if_pos (by omega), if_neg h1, if_pos h2, if_neg (by omega), if_neg (by omega), if_pos (by omega)]
    · by_cases h3 : i = 12
      · rw [if_pos (by omega), if_neg h1, if_neg h2, if_pos h3, if_neg (by omega), if_pos h3]
      · by_cases h4 : i = 13
        · rw [if_pos (by omega), if_neg h1, if_neg h2, if_neg h3, if_pos h4, if_pos h4]
        · rw [if_neg (by omega), if_neg (by omega), if_neg h4, if_neg h3, if_neg (by omega)]; exact (if_neg h1).symm
theorem put_last (L : LB) (hl : L.sts.length ≤ 32) (i : Nat) (hi : i < 64) : laid (stg L L.sts.length) 46 4 (smN (pb L) 46) i = sb L i := by
  unfold laid sb
  by_cases h1 : i < 46
  · rw [if_neg (by omega), if_pos h1, stg_all L i h1]
  · by_cases h2 : i < 50
    · rw [if_pos (by omega), if_neg h1, if_pos h2]
    · rw [if_neg (by omega), if_neg h1, if_neg h2, stg_past L hl i (by omega)]
theorem sm_bs (m : Nat) (g : Nat → Nat) (hg : ∀ i, i < m → g i < 256) : smN (bf (bs m g)) (bs m g).size = smN g m := by
  rw [bs_size]
  unfold smN mrN
  rw [rgS_congr (g := g) _ _ (fun i hi => show bf (bs m g) i = g i from bAt_bs m g i hi (hg i hi))]
theorem copy_pfx (w : World) (B : Nat) (h : Byt w B 64 (fun _ => 0)) : ∃ w', (∀ ty, (Builtin.copy_ #[48, 9] ty #[.slice (some ⟨B, 0, none⟩) 64 64, .string ⟨#[84, 82, 85, 78]⟩]).run Try.prog w = .ok (.int .i64 4) w') ∧ Byt w' B 64 (fun i => if i < 4 then tr i else 0) ∧ Trd B w w' := by
  refine ⟨_, fun ty => run_copy_string (P := Try.prog) w 48 9 ty 5 B 0 64 64 ⟨#[84, 82, 85, 78]⟩ Try.underlying48 (fun w => by
      obtain ⟨i0, hi, hz0, hz1, hz2⟩ := info_parts info_u8
      simp [sizeOf, typeInfo, hi, hz1]) (by decide) (fun j hj => by
        have hj4 : j < 4 := hj
        rw [Nat.zero_add, h.cell j (by omega)]; rfl) (fun j hj => by
        have hj4 : j < 4 := hj
        rw [Nat.zero_add]; exact h.free j (by omega)), ?_, ?_⟩
  · show Byt ((((w.setCell ⟨B, 0, none⟩ (.int .u8 ((84 : Nat) : Int))).setCell ⟨B, 1, none⟩ (.int .u8 ((82 : Nat) : Int))).setCell ⟨B, 2, none⟩ (.int .u8 ((85 : Nat) : Int))).setCell ⟨B, 3, none⟩ (.int .u8 ((78 : Nat) : Int))) B 64 _
    refine ((((h.set 0 84).set 1 82).set 2 85).set 3 78).congr (fun i hi => ?_)
    by_cases h4 : i < 4
    · have hh : i = 0 ∨ i = 1 ∨ i = 2 ∨ i = 3 := by omega
      rcases hh with rfl | rfl | rfl | rfl <;> rfl
    · show (if i = 3 then 78 else if i = 2 then 85 else if i = 1 then 82 else if i = 0 then 84 else 0) = _
      rw [if_neg (by omega), if_neg (by omega), if_neg (by omega), if_neg (by omega), if_neg h4]
  · show Trd B w ((((w.setCell ⟨B, 0, none⟩ (.int .u8 ((84 : Nat) : Int))).setCell ⟨B, 1, none⟩ (.int .u8 ((82 : Nat) : Int))).setCell ⟨B, 2, none⟩ (.int .u8 ((85 : Nat) : Int))).setCell ⟨B, 3, none⟩ (.int .u8 ((78 : Nat) : Int)))
    exact ((((Trd.refl B w).setCell 0 _).setCell 1 _).setCell 2 _).setCell 3 _
set_option maxRecDepth 100000 in
set_option maxHeartbeats 4000000 in
theorem put_any (L : LB) (sv mv : Value) (w : World) (h1 : Nl w sv L.sts) (h2 : Nl w mv L.mks) : Calls Try.prog 10 #[lV L.n L.s L.ep sv mv] w fun e w' => e = .returned (.tuple #[.string (puS L), .int .i64 (puE L)]) ∧ Kp w w' := by
  have hG := fun w' (k : Kp w w') => lgood_any L sv mv w' (h1.kept k) (h2.kept k)
  cases e1 : lg L with
  | false =>
    rw [show puS L = noS from if_neg (by simp [e1]), show puE L = 4 from if_neg (by simp [e1])]
    rw [e1] at hG
    unfold lV noS at *
    go_enter Try.func10, Try.ntmps10
    go_wp2_with fail
    refine (hG _ ((Kp.refl w).alloc _)).mono ?_; rintro e w1 ⟨rfl, k1⟩
    have K1 : Kp w w1 := ((Kp.refl w).alloc _).trans k1
    clear hG k1
    go_wp2
    go_ret2
    exact ⟨rfl, K1⟩
  | true =>
    rw [show puS L = ptS L from if_pos e1, show puE L = 0 from if_pos e1]
    rw [e1] at hG
    have GG := lg_gl e1
    have HGL : Hid (GL L) := GG
    have HSM := smN_lt (pb L) (pb_lt GG) 46
    have HPT : Hid (ptS L = bs 64 (sb L)) := rfl
    have HLL : Hid (L.sts.length ≤ 32) := by have := GG.l1; have := GG.n2; show L.sts.length ≤ 32; omega
    obtain ⟨P, hP⟩ : ∃ P, P = ptS L := ⟨_, rfl⟩
    rw [← hP] at HPT ⊢
    obtain ⟨SM, hSM⟩ : ∃ S, S = smN (pb L) 46 := ⟨_, rfl⟩
    rw [← hSM] at HSM
    have HM : Hid (SM = smN (pb L) 46) := hSM
    have H0 : Hid (∀ i, stg L 0 i = (if i = 13 then L.s.toNat else if i = 12 then L.n.toNat else laid (fun i => if i < 4 then tr i else 0) 4 8 L.ep.toNat i)) := stg_zero L
    have HST : Hid (∀ k i, (if i = 14 + k then mb L k else stg L k i) = stg L (k + 1) i) := stg_step L
    have HMB : Hid (∀ i, mb L i = (L.sts.getD i 0 * 64 + L.mks.getD i 0).toNat) := fun i => rfl
    clear hP hSM e1
    obtain ⟨a1, g1, o1, p1, rfl, A1⟩ := h1
    obtain ⟨a2, g2, o2, p2, rfl, A2⟩ := h2
    obtain ⟨n1, n2, s1, s2, ep1, ep2, l1, l2, mm⟩ := GG
    obtain ⟨E, hE⟩ : ∃ E : Nat, L.ep = E := ⟨L.ep.toNat, by omega⟩
    obtain ⟨S, hS⟩ : ∃ S : Nat, L.s = S := ⟨L.s.toNat, by omega⟩
    obtain ⟨N, hN⟩ : ∃ N : Nat, L.n = N := ⟨L.n.toNat, by omega⟩
    have hl1 : L.sts.length = N := by omega
    have hl2 : L.mks.length = N := by omega
    rw [hE] at ep1 ep2 H0 hG ⊢
    rw [hS] at s1 s2 H0 hG ⊢
    rw [hN] at n1 n2 H0 hG ⊢
    have i1 := A1.ha
    have i2 := A2.ha
    have HA1 : Hid (∀ j, j < N → w.cell? ⟨g1, o1 + j, none⟩ = some (.int .i64 (L.sts.getD j 0))) := fun j hj => A1.c j (by omega)
    have HA2 : Hid (∀ j, j < N → w.cell? ⟨g2, o2 + j, none⟩ = some (.int .i64 (L.mks.getD j 0))) := fun j hj => A2.c j (by omega)
    have HMM : Hid (∀ j, j < N → 0 ≤ L.sts.getD j 0 ∧ L.sts.getD j 0 ≤ 2 ∧ 0 ≤ L.mks.getD j 0 ∧ L.mks.getD j 0 < 64) := fun j hj => mm j (by omega)
    have HL1 : Hid (L.sts.length = N) := hl1
    rw [hl1] at i1 hG ⊢
    rw [hl2] at i2 hG ⊢
    clear A1 A2 l1 l2 mm hE hS hN hl1 hl2
    simp only [Int.toNat_natCast] at H0
    unfold lV at hG ⊢
    go_enter Try.func10, Try.ntmps10
    go_wp2_with fail
    refine (hG _ ((Kp.refl w).alloc _)).mono ?_; rintro e w1 ⟨rfl, k1⟩
    have hLc : Lc w1 w.heap.size N S E (.slice a1 N p1) (.slice a2 N p2) := (Lc.new w _ _ _ _ _ _).kept k1
    have K1 : Kp w w1 := ((Kp.refl w).alloc _).trans k1
    clear hG k1
    have hmk : (Instr.makeSlice 48 (.int .i64 64) (.int .i64 64)).run Try.prog w1 = .ok (.slice (some ⟨w1.heap.size, 0, none⟩) 64 64) (w1.alloc (.cells (madeCells #[.int .u8 0] 64) 5)) := run_make_row' (P := Try.prog) 48 5 (.int .u8 0) 1 Try.underlying48 info_u8 rfl .i64 .i64 64 (by omega) (by omega) w1
    have hB0 : Byt (w1.alloc (.cells (madeCells #[.int .u8 0] 64) 5)) w1.heap.size 64 (fun _ => 0) := (Fb.made w1 64 (by omega)).byt
    have K2 : Kp w1 (w1.alloc (.cells (madeCells #[.int .u8 0] 64) 5)) := (Kp.refl w1).alloc _
    obtain ⟨W, hW⟩ : ∃ W, W = w1.alloc (.cells (madeCells #[.int .u8 0] 64) 5) := ⟨_, rfl⟩
    obtain ⟨B, hB⟩ : ∃ B, B = w1.heap.size := ⟨_, rfl⟩
    rw [← hW] at hmk hB0 K2
    rw [← hB] at hmk hB0
    obtain ⟨W3, hcp, hB3, T3⟩ := copy_pfx W B hB0
    have hbw : w.heap.size < B := by rw [hB]; exact World.block_lt_of_cell? _ _ hLc.c0
    have hne : w.heap.size ≠ B := by omega
    have L3 := T3.lc hne (hLc.kept K2)
    have K3 : Kp w1 W3 := T3.kp w1 K2 (by rw [hB]; exact Nat.le_refl _)
    have HBW : Hid (w1.heap.size ≤ B) := by rw [hB]; exact Nat.le_refl _
    have HB3 : Hid (Byt W3 B 64 (fun i => if i < 4 then tr i else 0)) := hB3
    have HL3 : Hid (Lc W3 w.heap.size N S E (.slice a1 N p1) (.slice a2 N p2)) := L3
    have K0 : Hid (Kp w W3) := K1.trans K3
    have HW : Hid (w.heap.size ≤ B) := Nat.le_of_lt hbw
    obtain ⟨c0, c1, c2, c3, c4⟩ := L3
    clear hW hB hB0 hB3 T3 hLc K2 K1 K3
    have hE : IntKind.u64.wrap (E : Int) = (E : Int) := by rw [IntKind.wrap_u64]; omega
    have HBd : Hid (Byt W3.drew B 64 (fun i => if i < 4 then tr i else 0)) := HB3.out.kept (Kp.refl W3).drew (HB3.out.lt (by omega))
    have HSt := fun w' (h : Byt w' B 64 (fun i => if i < 4 then tr i else 0)) => store_any B 64 4 8 60 E (fun i => if i < 4 then tr i else 0) w' (by omega) (by omega) (by omega) h
    go_wp2_with fail
    clear hmk hcp
    go_cut [4] (fun p wx => p = .slice (some ⟨B, 0, none⟩) 64 64 ∧ Byt wx B 64 (laid (fun i => if i < 4 then tr i else 0) 4 8 E) ∧ Trd B W3 wx)
    case first =>
      go_region_with (go_at_call 27; refine (HSt _ (by exact HBd.out)).mono ?_; rintro e wx ⟨rfl, bx, tx⟩)
      all_goals (go_wp2_with fail; go_meet; exact ⟨rfl, bx, (Trd.refl B W3).drew.trans tx⟩)
    clear HSt HBd
    obtain ⟨rfl, bx, tx⟩ := hcut
    obtain ⟨w4, hw4⟩ : ∃ w4, w4 = wc := ⟨_, rfl⟩
    rw [← hw4] at bx tx ⊢
    have K4 : Hid (Kp w w4) := tx.kp w K0.out HW.out
    obtain ⟨c0, c1, c2, c3, c4⟩ := tx.lc hne HL3.out
    have b12 := bx.cell 12 (by omega)
    have z12 := bx.free 12 (by omega)
    have b13 := ((bx.set 12 N).cell 13 (by omega))
    have z13 := ((bx.set 12 N).free 13 (by omega))
    have HB5 : Hid (Byt ((w4.setCell ⟨B, 12, none⟩ (.int .u8 (N : Int))).setCell ⟨B, 13, none⟩ (.int .u8 (S : Int))) B 64 (stg L 0)) := ((bx.set 12 N).set 13 S).congr (fun i _ => by rw [H0.out])
    have T5 : Hid (Trd B W3 ((w4.setCell ⟨B, 12, none⟩ (.int .u8 (N : Int))).setCell ⟨B, 13, none⟩ (.int .u8 (S : Int)))) := (tx.setCell 12 _).setCell 13 _
    clear hw4 bx tx
    have eN : (N : Int) % 256 = N := by omega
    have eS : (S : Int) % 256 = S := by omega
    go_wp2
    clear c0 c1 c2 c3 c4 b12 z12 b13 z13 eN eS hE
    go_loopw [35] (fun i wr => ∃ k : Nat, k ≤ N ∧ i = .int .i64 k ∧ Hid (Byt wr B 64 (stg L k)) ∧ Hid (Trd B W3 wr)) (fun i _ => N - (intOf i).toNat)
    case atStart => exact ⟨0, Nat.zero_le _, rfl, HB5, T5⟩
    case round =>
      obtain ⟨k, hk, rfl, HK, HT⟩ := hrel
      obtain ⟨c0, c1, c2, c3, c4⟩ := HT.out.lc hne HL3.out
      have KR : Hid (Kp w wr) := HT.out.kp w K0.out HW.out
      by_cases hlt : k < N
      · obtain rfl := i1 (by omega)
        obtain rfl := i2 (by omega)
        have d1 := KR.out.held (HA1.out k hlt)
        have d2 := KR.out.held (HA2.out k hlt)
        have hmm := HMM.out k hlt
        have hmb := HMB.out k
        obtain ⟨x, hx⟩ : ∃ x, x = L.sts.getD k 0 := ⟨_, rfl⟩
        obtain ⟨y, hy⟩ : ∃ y, y = L.mks.getD k 0 := ⟨_, rfl⟩
        rw [← hx] at d1 hmm hmb
        rw [← hy] at d2 hmm hmb
        obtain ⟨m1, m2, m3, m4⟩ := hmm
        obtain ⟨z, hz⟩ : ∃ z : Nat, x * 64 + y = z := ⟨(x * 64 + y).toNat, by omega⟩
        have HZ : Hid (mb L k = z) := by show mb L k = z; rw [hmb, hz]; rfl
        have hz8 : IntKind.u8.wrap (x * 64 + y) = (z : Int) := by rw [IntKind.wrap_u8, hz]; omega
        have hz9 : (x * 64 + y) % 256 = (z : Int) := by rw [hz]; omega
        have f0 := HK.out.cell (14 + k) (by omega)
        have f1 := HK.out.free (14 + k) (by omega)
        clear hx hy hmb hz
        go_wp2
        go_roundw
        case rel => exact ⟨k + 1, by omega, by go_num, (HK.out.set (14 + k) z).congr (fun i _ => by rw [← HST.out, HZ.out]), HT.out.setCell _ _⟩
        case measure => simp [intOf]; omega
      · obtain rfl : k = N := by omega
        have hcv := HK.out.text 46 64 (by omega)
        have hsl := slow_any (bs 46 (stg L k)) (by rw [bs_size]; omega) wr
        have HKB : Hid (Byt wr B 64 (stg L k)) := HK
        have hsm : smN (bf (bs 46 (stg L k))) (bs 46 (stg L k)).size = SM := by
          rw [sm_bs 46 _ (fun i hi => by rw [← HL1.out, stg_all L i hi]; exact pb_lt HGL.out i), HM.out]
          unfold smN mrN
          rw [rgS_congr (g := pb L) _ _ (fun i hi => by rw [← HL1.out, stg_all L i hi])]
        rw [hsm] at hsl
        clear hsm HK
        obtain ⟨ST, hST⟩ : ∃ ST, ST = bs 46 (stg L k) := ⟨_, rfl⟩
        rw [← hST] at hcv hsl
        clear hST
        go_wp2_with fail
        refine hsl.mono ?_; rintro e w5 ⟨rfl, rfl⟩
        clear hsl hcv
        have hst := store_any B 64 46 4 18 SM (stg L k) w5 (by omega) (by omega) (by omega) HKB.out
        go_wp2_with fail
        refine hst.mono ?_; rintro e w6 ⟨rfl, b6, t6⟩
        have hcv := b6.text 64 64 (by omega)
        have HFin : Hid (bs 64 (laid (stg L k) 46 4 SM) = P) := by
          show _ = P
          rw [HPT.out]
          exact bs_congr (fun i hi => by rw [HM.out, ← HL1.out]; exact put_last L HLL.out i hi)
        rw [HFin.out] at hcv
        have KF : Hid (Kp w w6) := t6.kp w KR.out HW.out
        clear hst b6 t6 HFin
        go_wp2
        go_ret2
        exact ⟨rfl, KF.out⟩

end Go.Proofs.Ytobpgfnmhpgkeaa
