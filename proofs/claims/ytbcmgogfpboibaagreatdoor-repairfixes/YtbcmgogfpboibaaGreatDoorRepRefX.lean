/-
  The document's Fix (layer 5), as called: all columns, the lost ones brought back, or the document's error. Conditions: that the arguments' cells hold what they are said to hold.
-/
import Derived.Test.YtbcmgogfpboibaaGreatDoorRepRefF
namespace Go.Proofs.YtbcmgogfpboibaaGreatDoor
open Go.RowKit Plain Go.BigFrame
set_option linter.unusedVariables false

theorem info_bytes : (Tryz.prog.info? 59).map (fun i => (i.zero, i.size, i.bytes)) = some (some (.slice none 0 0), 1, 24) := by kernel_rfl
theorem rfix_bad (w : World) (cv lv : Value) (L : List ByteArray) (lost : List Int) (hL : StrsIn w cv L) (hI : IntsIn w lv lost) (hlo : lost.length * 8 ≤ 140737488355328) (hE : srE ((L.length : Int) - 2) lost ≠ 0) :
    Calls Tryz.prog 17 #[cv, lv] w fun e w' => e = .returned (.tuple #[.slice none 0 0, .int .i64 (srE ((L.length : Int) - 2) lost)]) ∧ Kp w w' := by
  obtain ⟨a, cap, rfl, h1, h2⟩ := hL.slice
  have hS := rlost_any ((L.length : Int) - 2) lv lost hlo w hI
  obtain ⟨E, hE'⟩ : ∃ E, E = srE ((L.length : Int) - 2) lost := ⟨_, rfl⟩
  rw [← hE'] at hS hE ⊢
  unfold maxLen at h2
  have hEn : (E == 0) = false := by rw [beq_eq_false_iff_ne]; exact hE
  obtain ⟨n, hn⟩ : ∃ n, n = L.length := ⟨_, rfl⟩
  rw [← hn] at hS h1 ⊢
  clear hE' hL hI hn
  go_enter Tryz.func17, Tryz.ntmps17
  go_wp2_with fail
  refine hS.mono ?_; rintro e w1 ⟨u, m, rfl, _, k1⟩
  go_wp2
  go_ret2
  exact ⟨rfl, k1⟩

theorem bs_back {s : ByteArray} {n : Nat} (h : s.size = n) : bs n (fun i => bAt s (i : Int)) = s := by subst h; exact bs_self s
def rowC (c m : Nat) : Nat → Nat := fun i => if i < c then m + 1 else m
theorem rowC_up (c m : Nat) : upC (rowC c m) c = rowC (c + 1) m := by
  funext i
  unfold upC rowC
  by_cases h : i = c
  · subst h; rw [if_pos rfl, if_neg (by omega), if_pos (by omega)]
  · rw [if_neg h]
    by_cases h2 : i < c
    · rw [if_pos h2, if_pos (by omega)]
    · rw [if_neg h2, if_neg (by omega)]

set_option maxRecDepth 100000 in
set_option maxHeartbeats 16000000 in
theorem rfix_good (w : World) (k : Nat) (cv lv : Value) (L : List ByteArray) (lost : List Int) (hL : StrsIn w cv L) (hs : ∀ i, i < L.length → (L.getD i noS).size ≤ maxLen) (hI : IntsIn w lv lost) (hlo : lost.length * 8 ≤ 140737488355328) (hl : L.length = k + 2) (hE : srE (k : Int) lost = 0) :
    Calls Tryz.prog 17 #[cv, lv] w fun e w' => ∃ v, e = .returned (.tuple #[v, .int .i64 (fxE L lost)]) ∧ StrsIn w' v (fxL L lost) ∧ Kp w w' := by
  obtain ⟨i0, hi, hz0, hz1, hz2⟩ := info_parts info_str5
  obtain ⟨q1, q2, q3, q4⟩ := sr_zero hE
  have hk1 : 2 ≤ k := by omega
  have hk2 : k ≤ 30 := by omega
  have hgl : (gn (k + 2) lost).length ≤ 2 := by
    have : (dst lost).length = (gn (k + 2) lost).length := by rw [dst_gn (k + 2) lost (fun x hx => by have := in_all q3 x hx; omega), List.length_map]
    omega
  have hE2 : srE ((L.length : Int) - 2) lost = 0 := by rw [hl, show ((k + 2 : Nat) : Int) - 2 = (k : Int) by omega]; exact hE
  have eE : fxE L lost = fitE (keptL L (k + 2) (gn (k + 2) lost)) := by rw [fx_un hE2]; unfold gnL; rw [hl]
  have eL : fxL L lost = if fxE L lost = 0 then fixZ ((keptL L (k + 2) (gn (k + 2) lost)).getD 0 noS).size k (blk ((keptL L (k + 2) (gn (k + 2) lost)).getD 0 noS).size L (gn (k + 2) lost)) (gn (k + 2) lost) else [] := by
    unfold fxL gnL lnS; rw [hl]; rfl
  have hS := rlost_any (k : Int) lv lost hlo w hI
  rw [hE] at hS
  obtain ⟨ca, cb, co, cc, rfl, c1, c2, c3, c4⟩ := hL.parts
  obtain rfl := c3 (by omega)
  rw [hl] at c1 c4 ⊢
  unfold maxLen at c2
  have hgc : ∀ i, i < k + 2 → (gn (k + 2) lost).contains i = lsB lost i := fun i hi => by
    rw [Bool.eq_iff_iff, ← ls_gn hi lost]; simp
  obtain ⟨g, hg⟩ : ∃ g, g = gn (k + 2) lost := ⟨_, rfl⟩
  obtain ⟨E, hEe⟩ : ∃ E, E = fxE L lost := ⟨_, rfl⟩
  obtain ⟨R, hRe⟩ : ∃ R, R = fxL L lost := ⟨_, rfl⟩
  rw [← hEe] at eE eL ⊢
  rw [← hRe] at eL ⊢
  rw [← hg] at eE eL hgl hgc
  obtain ⟨M, hM⟩ : ∃ M, M = keptL L (k + 2) g := ⟨_, rfl⟩
  rw [← hM] at eE eL
  have HG : Hid (g = gn (k + 2) lost) := hg
  have HM : Hid (M = keptL L (k + 2) g) := hM
  have HE : Hid (E = fitE M) := eE
  have HRE : Hid (R = if E = 0 then fixZ (M.getD 0 noS).size k (blk (M.getD 0 noS).size L g) g else []) := eL
  have HC : Hid (∀ i, i < k + 2 → w.cell? ⟨cb, co + i, none⟩ = some (.string (L.getD i noS))) := c4
  have HGC : Hid (∀ i, i < k + 2 → g.contains i = lsB lost i) := hgc
  have HS : Hid (∀ i, i < L.length → (L.getD i noS).size ≤ maxLen) := hs
  have HL : Hid (L.length = k + 2) := hl
  clear hg hM eE eL c4 hgc hEe hRe c3 hL hI hE hE2 q1 q2 q3 q4 hs hl
  go_enter Tryz.func17, Tryz.ntmps17
  go_wp2_with fail
  refine hS.mono ?_; rintro e w1 ⟨u, nl, rfl, hu, k1⟩
  obtain ⟨G, rfl, hG1, hG2, hB, rfl⟩ := hu (by trivial)
  rw [show ((k : Nat) : Int).toNat = k by omega] at hB ⊢
  have HB : Hid (∀ i, i < k + 2 → w1.cell? ⟨G, i, none⟩ = some (.bool (lsB lost i))) := hB.c
  clear hS hu hB
  go_wp2
  go_loopw [10, 11] (fun v i wr => ∃ m : Nat, m ≤ k + 2 ∧ i = .int .i64 m ∧ wr.ownsRow w1.heap.size 9 1 v (keptL L m g).length ((keptL L m g).map Value.string) ∧ Kp w1 wr) (fun _ i _ => k + 2 - (intOf i).toNat)
  case atStart => exact ⟨0, by omega, rfl, World.ownsRow_nil _ _ _ _, Kp.refl w1⟩
  case round =>
    obtain ⟨m, hm, rfl, hown, hK⟩ := hrel
    by_cases hlt : m < k + 2
    · have hcm := (k1.trans hK).held (HC.out m hlt)
      have hbm := hK.held (HB.out m hlt)
      obtain ⟨s, hse⟩ : ∃ s, s = L.getD m noS := ⟨_, rfl⟩
      rw [← hse] at hcm
      have HSE : Hid (s = L.getD m noS) := hse
      have hle := keptL_le L m g
      have hz := hK.size
      have hgm := HGC.out m hlt
      clear hse
      by_cases hb : lsB lost m = true
      · have HO : Hid (keptL L (m + 1) g = keptL L m g) := keptL_out (by rw [hgm, hb])
        rw [hb] at hbm
        clear hb hgm
        go_wp2
        go_roundw
        case rel => exact ⟨m + 1, by omega, by go_num, by rw [HO.out]; exact hown, hK⟩
        case measure => simp [intOf] <;> omega
      · have hb' : lsB lost m = false := by simpa using hb
        have HO : Hid (keptL L (m + 1) g = keptL L m g ++ [L.getD m noS]) := keptL_in (by rw [hgm, hb'])
        rw [hb'] at hbm
        clear hb hb' hgm
        go_wp2_with (at_builtin; refine wpList_append_own _ rfl _ _ 33 rfl w1.heap.size 9 i0 (.string ByteArray.empty) 1 16 Tryz.underlying33 hi hz0 hz1 hz2 rfl (by decide) _ _ _ rfl (hown.alloc _) ⟨wr.heap.size, 0, none⟩ 1 1 [.string s] rfl rfl ?c1 ?c2 ?c3 ?c4 ?c5 ?_)
        case c1 =>
          intro j u hj
          match j, hj with
          | 0, hj => simp at hj; subst hj; simp [Addr.add]
        case c2 => intro u hu; simp at hu; subst hu; rfl
        case c3 => unfold maxLen; omega
        case c4 => omega
        case c5 => simp; omega
        · intro v' w3 hown3 hgrow3 _
          have hK3 : Kp w1 w3 := (hK.alloc _).grown hgrow3 (own_lt hown)
          clear hgrow3 hown hK
          go_wp2
          go_roundw
          case rel => exact ⟨m + 1, by omega, by go_num, by rw [HO.out]; simpa [HSE.out] using hown3, hK3⟩
          case measure => simp [intOf] <;> omega
    · obtain rfl : m = k + 2 := by omega
      have hkz : ∀ i, i < (keptL L (k + 2) g).length → ((keptL L (k + 2) g).getD i noS).size ≤ maxLen := fun i hi => by
        obtain ⟨j, hj, _, e⟩ := keptL_mem (mem_of_at _ i hi)
        rw [e]; exact HS.out j (by rw [HL.out]; exact hj)
      have hpos : 0 < (keptL L (k + 2) g).length := keptL_pos hgl (by omega)
      have hA := fit_any _ _ hkz wr (own_strs hown rfl)
      rw [← HM.out] at hA hown hpos
      rcases hown.2 with ⟨rfl, h0⟩ | ⟨Kb, kc, cur, rfl, hKb, hcur, r1, r2, r3, r4⟩
      · omega
      have hk0 : wr.cell? ⟨Kb, 0, none⟩ = some (.string (M.getD 0 noS)) := own_at hown rfl 0 hpos
      have hfit := fit_is M
      rw [← HE.out] at hA hfit
      have hr := fit_range M
      rw [← HE.out] at hr
      obtain ⟨s0, hs0⟩ : ∃ s, s = M.getD 0 noS := ⟨_, rfl⟩
      have HS0 : Hid (s0 = M.getD 0 noS) := hs0
      have h65 : E = 0 → s0.size ≤ 65536 := fun h0 => by rw [hs0]; exact (hfit h0).1 0 hpos
      rw [← hs0] at hk0
      obtain ⟨ml, hml⟩ : ∃ ml, ml = M.length := ⟨_, rfl⟩
      rw [← hml] at hA hpos hown r1 ⊢
      clear hfit hml r3 r4 hcur hown hkz hs0
      go_wp2_with fail
      refine hA.mono ?_; rintro e w2 ⟨rfl, k2⟩
      have K2 := hK.trans k2
      have hk2' := k2.held hk0
      clear hA k2 hk0 hK
      by_cases h0 : E = 0
      · have hx := h65 h0
        subst h0
        obtain ⟨n, hn⟩ : ∃ n, n = s0.size := ⟨_, rfl⟩
        have hsn : (M.getD 0 noS).size = n := by rw [hn, HS0.out]
        have hR : R = fixZ n k (blk n L g) g := by rw [HRE.out, if_pos rfl, hsn]
        have hZ : ZOk L (blk n L g) k n lost := by
          rw [HG.out]
          exact z_ok HL.out (by rw [← HG.out, ← HM.out]; exact HE.out.symm) n (by rw [← HG.out, ← HM.out]; exact hsn.symm)
        have hW := fix_whole hZ (by rw [← HG.out]; exact hgl)
        rw [← HG.out, ← hR] at hW
        obtain ⟨Z, hZe⟩ : ∃ Z, Z = blk n L g := ⟨_, rfl⟩
        rw [← hZe] at hZ hW
        have HZ : Hid (ZOk L Z k n lost) := hZ
        have HW : Hid (Whole L R k n lost) := hW.1
        have HD : Hid (∀ m, m < n → k ≤ 30 → dtL (xb m (Z.take (k + 1))) (qb m (Z.take k) ^^^ bAt (Z.getD (k + 1) noS) m) (lsB lost k) (gn k lost) = (gn k lost).map fun i => bAt (R.getD i noS) m) := hW.2
        have hgk : (gn k lost).length ≤ 2 := by
          have h9 := gn_two k lost
          have h8 := hgl
          rw [HG.out, h9, List.length_append, List.length_append] at h8
          omega
        have HCc : Hid (∀ i, i < k + 2 → w2.cell? ⟨cb, co + i, none⟩ = some (.string (L.getD i noS))) := fun i hi => (k1.trans K2).held (HC.out i hi)
        have HBb : Hid (∀ i, i < k + 2 → w2.cell? ⟨G, i, none⟩ = some (.bool (lsB lost i))) := fun i hi => K2.held (HB.out i hi)
        have hmk : ∀ W : World, (Instr.makeSlice 75 (.int .i64 ((k : Int) + 2)) (.int .i64 ((k : Int) + 2))).run Tryz.prog W = .ok (.slice (some ⟨W.heap.size, 0, none⟩) (k + 2) (k + 2)) (W.alloc (.cells (madeCells #[.slice none 0 0] (k + 2)) 59)) := fun W =>
          run_make_row' (P := Tryz.prog) 75 59 (.slice none 0 0) 24 Tryz.underlying75 info_bytes rfl .i64 .i64 (k + 2) (by omega) (by omega) W
        have hm0 := hmk w2
        have hO0 := OutIn.new (base := w2.heap.size) (w := w2) (Nat.le_refl _) k (k + 2) (by omega) 59 (fun i j => bAt (R.getD i noS) j)
        have KW : Kp w2 (w2.alloc (.cells (madeCells #[.slice none 0 0] (k + 2)) 59)) := (Kp.refl w2).alloc _
        obtain ⟨w3, hw3⟩ : ∃ w3, w3 = w2.alloc (.cells (madeCells #[.slice none 0 0] (k + 2)) 59) := ⟨_, rfl⟩
        rw [← hw3] at hm0 hO0 KW
        obtain ⟨O, hOe⟩ : ∃ O, O = w2.heap.size := ⟨_, rfl⟩
        rw [← hOe] at hm0
        have hO1 : OutIn w2.heap.size w3 O k (fun _ => .slice none 0 0) (fun _ => 0) (fun i j => bAt (R.getD i noS) j) := by rw [hOe]; exact hO0
        have K02 := k1.trans K2
        clear hmk hw3 hsn hR hZ hW hZe HG HM HE HRE HC HB HGC HS HS0 hO0 h65 hr hOe
        go_wp2
        have hn65 : n ≤ 65536 := by rw [hn]; exact hx
        have HN : Hid (n = s0.size) := hn
        clear hn
        go_loopw [13] (fun iv wr => ∃ m V, m ≤ n ∧ iv = .int .i64 (m : Nat) ∧ OutIn w2.heap.size wr O k V (fun _ => m) (fun i j => bAt (R.getD i noS) j) ∧ Kp w2 wr) (fun iv _ => n - (intOf iv).toNat)
        case atStart => exact ⟨0, _, by omega, rfl, hO1, KW⟩
        case round =>
          obtain ⟨m, V, hm, rfl, hO, hK⟩ := hrel
          have hk0 := hK.held hk2'
          clear hm0 hO1 KW
          by_cases hlt : m < n
          · have hlt' : m < s0.size := by rw [← HN.out]; exact hlt
            have hT := HD.out m hlt (by omega)
            have hDt := rdata_any HZ.out hk1 hk2 cb co cc G (k + 2) m c1 c2 (Nat.le_refl _) (by omega) hn65 hlt hgk wr (fun i hi => hK.held (HCc.out i hi)) (fun i hi => hK.held (HBb.out i hi))
            rw [hT] at hDt
            clear hT
            obtain ⟨T, hTe⟩ : ∃ T, T = (gn k lost).map fun i => bAt (R.getD i noS) m := ⟨_, rfl⟩
            rw [← hTe] at hDt
            have HT : Hid (T = (gn k lost).map fun i => bAt (R.getD i noS) m) := hTe
            clear hTe
            go_wp2_with fail
            refine hDt.mono ?_; rintro e w4 ⟨v, rfl, hdat, k4⟩
            obtain ⟨a, D, cap, rfl, t1, t2, t3, t4, t5⟩ := hdat.v
            have hO4 := hO.kp k4
            have K4 := hK.trans k4
            have hF4 : ∀ j, j < T.length → Far w4 O k V D j (.int .u8 (T.getD j 0 : Nat)) := fun j hj => ⟨t5 j hj, by have := hO.hO.2; omega, fun i hi e => by have := ((hO.r i hi).lt D e).2; omega⟩
            have HTL : Hid (T.length = (gn k lost).length) := by show _ = _; rw [HT.out, List.length_map]
            have ht2 : T.length ≤ 2 := by omega
            clear hdat t5 hDt hO hK k4 hk0
            go_wp2
            go_loopw [15, 16] (fun nv iv wr => ∃ c V, c ≤ k ∧ iv = .int .i64 (c : Nat) ∧ nv = .int .i64 ((gn c lost).length : Nat) ∧ OutIn w2.heap.size wr O k V (rowC c m) (fun i j => bAt (R.getD i noS) j) ∧ Kp w2 wr ∧ ∀ j, j < T.length → Far wr O k V D j (.int .u8 (T.getD j 0 : Nat))) (fun _ iv _ => k - (intOf iv).toNat)
            case atStart => exact ⟨0, V, by omega, rfl, rfl, hO4.congr (fun i _ => by unfold rowC; rw [if_neg (by omega)]), K4, hF4⟩
            case round =>
              obtain ⟨c, V', hc, rfl, rfl, hO, hK, hF⟩ := hrel
              clear hO4 K4 hF4
              by_cases hltc : c < k
              · have hb4 := hK.held (HBb.out c (by omega))
                have hvc := hO.cl c hltc
                have hrc : rowC c m c = m := by unfold rowC; rw [if_neg (by omega)]
                obtain ⟨vc, hve⟩ : ∃ v, v = V' c := ⟨_, rfl⟩
                rw [← hve] at hvc
                have hgle := gn_le c lost
                by_cases hb : lsB lost c = true
                · obtain ⟨g1, g2⟩ := gn_place hb k hltc
                  have hgs := gn_in hb
                  rw [hb] at hb4
                  obtain ⟨nn, hnn⟩ : ∃ nn, nn = (gn c lost).length := ⟨_, rfl⟩
                  have hlt2 : nn < T.length := by rw [HTL.out, hnn]; exact g1
                  have hgt : T.getD nn 0 = bAt (R.getD c noS) m := by
                    rw [HT.out, List.getD_eq_getElem?_getD, List.getElem?_map, List.getElem?_eq_getElem (by rw [hnn]; exact g1)]
                    rw [List.getD_eq_getElem?_getD, ← hnn, List.getElem?_eq_getElem (by rw [hnn]; exact g1)] at g2
                    simp at g2 ⊢
                    rw [g2]
                  have hcd := (hF nn hlt2).c
                  obtain ⟨t, hte⟩ : ∃ t, t = T.getD nn 0 := ⟨_, rfl⟩
                  rw [← hte] at hcd hgt
                  have hbt : t = (fun i j => bAt (R.getD i noS) ((j : Nat) : Int)) c (rowC c m c) := by rw [hrc]; exact hgt
                  obtain rfl := t4 (by omega)
                  have HGS : Hid ((gn (c + 1) lost).length = nn + 1) := by show _ = _; rw [hgs, ← hnn]
                  rw [← hnn] at hgle ⊢
                  have hrc2 : rowC c m c ≤ 65536 := by omega
                  have hi1 : (c : Int) < (k : Int) + 2 := by omega
                  have hi2 : (nn : Int) < (T.length : Int) := by omega
                  have hOw : O < wr.heap.size := hO.hO.2
                  have HO : Hid (OutIn w2.heap.size wr O k V' (rowC c m) (fun i j => bAt (R.getD i noS) j)) := hO
                  have HK : Hid (Kp w2 wr) := hK
                  have HF : Hid (∀ j, j < T.length → Far wr O k V' D j (.int .u8 (T.getD j 0 : Nat))) := hF
                  have HV : Hid (vc = V' c) := hve
                  have HBT : Hid (t = (fun i j => bAt (R.getD i noS) ((j : Nat) : Int)) c (rowC c m c)) := hbt
                  clear hb g1 g2 hgs hnn hgt hte hbt hO hK hF hve hrc t4
                  go_upto_region 24 with fail
                  go_region_law (refine byte_step (by rfl) (.tmp 87) (.tmp 92) (by rfl) HO.out HK.out (by first | exact (Kp.refl _).drew | exact ((Kp.refl _).alloc _).drew | exact ((Kp.refl _).drew).alloc _) hltc HV.out (by rfl) _ t HBT.out (by rfl) (by simp) hrc2 ?_; intro g5 n5 cap5 w5 hst hcl hfz)
                  all_goals (
                    go_wp2
                    go_roundw
                    (case rel => exact ⟨c + 1, _, by omega, by go_num, by rw [HGS.out]; go_num, by rw [← rowC_up]; exact hst.out, hst.kp, fun j hj => hst.far _ _ _ (HF.out j hj)⟩)
                    (case measure => simp [intOf] <;> omega))
                · have hb' : lsB lost c = false := by simpa using hb
                  have hgs := gn_out hb'
                  have hcc := hK.held (HCc.out c (by omega))
                  have hsame := HW.out.same c hltc hb'
                  have hsz : (R.getD c noS).size = n := HW.out.sz.at c (by rw [HW.out.len]; omega)
                  rw [hsame] at hsz
                  rw [hb'] at hb4
                  obtain ⟨nn, hnn⟩ : ∃ nn, nn = (gn c lost).length := ⟨_, rfl⟩
                  obtain ⟨s, hse⟩ : ∃ s, s = L.getD c noS := ⟨_, rfl⟩
                  rw [← hse] at hcc hsz hsame
                  have hms : m < s.size := by omega
                  obtain ⟨t, hte⟩ : ∃ t, (s[m]'hms).toNat = t := ⟨_, rfl⟩
                  have hbt : t = (fun i j => bAt (R.getD i noS) ((j : Nat) : Int)) c (rowC c m c) := by
                    rw [hrc]
                    show t = bAt (R.getD c noS) m
                    rw [hsame, bAt_nat s m hms]; exact hte.symm
                  have ht256 : t < 256 := by rw [← hte]; exact UInt8.toNat_lt _
                  have HGS : Hid ((gn (c + 1) lost).length = nn) := by show _ = _; rw [hgs, ← hnn]
                  rw [← hnn] at hgle ⊢
                  have hrc2 : rowC c m c ≤ 65536 := by omega
                  have hi1 : (c : Int) < (k : Int) + 2 := by omega
                  have hi2 : (m : Int) < (s.size : Int) := by omega
                  have hOw : O < wr.heap.size := hO.hO.2
                  have HO : Hid (OutIn w2.heap.size wr O k V' (rowC c m) (fun i j => bAt (R.getD i noS) j)) := hO
                  have HK : Hid (Kp w2 wr) := hK
                  have HF : Hid (∀ j, j < T.length → Far wr O k V' D j (.int .u8 (T.getD j 0 : Nat))) := hF
                  have HV : Hid (vc = V' c) := hve
                  have HBT : Hid (t = (fun i j => bAt (R.getD i noS) ((j : Nat) : Int)) c (rowC c m c)) := hbt
                  clear hb hb' hgs hnn hbt hO hK hF hve hrc t4 hse hsame
                  go_upto_region 26 with fail
                  go_region_law (refine byte_step (by rfl) (.tmp 102) (.tmp 109) (by rfl) HO.out HK.out (by first | exact (Kp.refl _).drew | exact ((Kp.refl _).alloc _).drew | exact ((Kp.refl _).drew).alloc _) hltc HV.out (by rfl) _ t HBT.out (by rfl) (by simp) hrc2 ?_; intro g5 n5 cap5 w5 hst hcl hfz)
                  all_goals (
                    go_wp2
                    go_roundw
                    (case rel => exact ⟨c + 1, _, by omega, by go_num, by rw [HGS.out], by rw [← rowC_up]; exact hst.out, hst.kp, fun j hj => hst.far _ _ _ (HF.out j hj)⟩)
                    (case measure => simp [intOf] <;> omega))
              · obtain rfl : c = k := by omega
                go_wp2
                go_roundw
                case rel => exact ⟨m + 1, V', by omega, by go_num, hO.congr (fun i hi => by unfold rowC; rw [if_pos hi]), hK⟩
                case measure => simp [intOf] <;> omega
          · have hmn : m = n := by omega
            obtain ⟨w6, hw6⟩ : ∃ w', w' = wr := ⟨_, rfl⟩
            rw [← hw6] at hO hK hk0 ⊢
            clear hw6
            have hnm : ¬ m < s0.size := by rw [← HN.out]; exact hlt
            have HO : Hid (OutIn w2.heap.size w6 O k V (fun _ => n) (fun i j => bAt (R.getD i noS) j)) := by rw [← hmn]; exact hO
            have hz26 := hK.size
            clear hO HD HZ hmn hlt
            go_wp2
            go_loopw [17, 18] (fun v iv wr => ∃ c, c ≤ k ∧ iv = .int .i64 (c : Nat) ∧ wr.ownsRow w6.heap.size 9 1 v c ((R.take c).map Value.string) ∧ Kp w6 wr) (fun _ iv _ => k - (intOf iv).toNat)
            case atStart => exact ⟨0, by omega, rfl, World.ownsRow_nil _ _ _ _, Kp.refl w6⟩
            case round =>
              obtain ⟨c, hc, rfl, hown, hK4⟩ := hrel
              have hz4 := hK4.size
              by_cases hltc : c < k
              · have hO4 := HO.out.kp hK4
                have hvc := hO4.cl c hltc
                have hcv := convert_own_any (P := Tryz.prog) 59 9 Tryz.underlying59 Tryz.underlying5 Tryz.underlying9 (hO4.r c hltc)
                rw [bs_back (HW.out.sz.at c (by rw [HW.out.len]; omega))] at hcv
                have HT : Hid (R.take (c + 1) = R.take c ++ [R.getD c noS]) := take_snoc (by rw [HW.out.len]; omega)
                obtain ⟨s, hse⟩ : ∃ s, s = R.getD c noS := ⟨_, rfl⟩
                rw [← hse] at hcv HT
                obtain ⟨vc, hve⟩ : ∃ v, v = V c := ⟨_, rfl⟩
                rw [← hve] at hvc hcv
                have hi1 : (c : Int) < (k : Int) + 2 := by omega
                clear hO4 hse hve
                go_wp2_with (at_builtin; refine wpList_append_own _ rfl _ _ 33 rfl w6.heap.size 9 i0 (.string ByteArray.empty) 1 16 Tryz.underlying33 hi hz0 hz1 hz2 rfl (by decide) _ _ _ rfl (hown.alloc _) ⟨wr.heap.size, 0, none⟩ 1 1 [.string s] rfl rfl ?d1 ?d2 ?d3 ?d4 ?d5 ?_)
                case d1 =>
                  intro j u hj
                  match j, hj with
                  | 0, hj => simp at hj; subst hj; simp [Addr.add]
                case d2 => intro u hu; simp at hu; subst hu; rfl
                case d3 => unfold maxLen; omega
                case d4 => omega
                case d5 => simp; omega
                · intro v' w8 hown8 hgrow8 _
                  have hK8 : Kp w6 w8 := (hK4.alloc _).grown hgrow8 (own_lt hown)
                  clear hgrow8 hown hK4
                  go_wp2
                  go_roundw
                  case rel => exact ⟨c + 1, by omega, by go_num, by rw [HT.out]; simpa using hown8, hK8⟩
                  case measure => simp [intOf] <;> omega
              · obtain rfl : c = k := by omega
                have hRl := HW.out.len
                have hTl : (R.take c).length = c := by rw [List.length_take, hRl]; omega
                have hTs : ∀ s ∈ R.take c, s.size = n := HW.out.sz.take c
                have hMk := rmake_any u17 (R.take c) (fun i hi => by rw [hTs _ (mem_of_at _ i hi)]; unfold maxLen; omega) wr (own_strs hown hTl)
                obtain ⟨e0, e1, e2⟩ := mk_all (by omega) (by omega) hn65 hTs
                rw [e0, e1, e2] at hMk
                have hp := HW.out.p
                have hq := HW.out.q
                have HRR : Hid (R = R.take c ++ [R.getD c noS] ++ [R.getD (c + 1) noS]) := by
                  show R = _
                  rw [← take_snoc (by omega), ← take_snoc (by omega), ← hRl, List.take_length]
                obtain ⟨p0, hp0⟩ : ∃ p, p = parS n (R.take c) := ⟨_, rfl⟩
                obtain ⟨q0, hq0⟩ : ∃ q, q = wgtS n (R.take c) := ⟨_, rfl⟩
                rw [← hp0] at hp hMk
                rw [← hq0] at hq hMk
                obtain ⟨pR, hpR⟩ : ∃ p, p = R.getD c noS := ⟨_, rfl⟩
                obtain ⟨qR, hqR⟩ : ∃ q, q = R.getD (c + 1) noS := ⟨_, rfl⟩
                rw [← hpR] at hp HRR
                rw [← hqR] at hq HRR
                have gP := (hK.trans hK4).held (HBb.out c (by omega))
                have gQ := (hK.trans hK4).held (HBb.out (c + 1) (by omega))
                have cP := (hK.trans hK4).held (HCc.out c (by omega))
                have cQ := (hK.trans hK4).held (HCc.out (c + 1) (by omega))
                obtain ⟨sP, hsP⟩ : ∃ p, p = L.getD c noS := ⟨_, rfl⟩
                obtain ⟨sQ, hsQ⟩ : ∃ p, p = L.getD (c + 1) noS := ⟨_, rfl⟩
                rw [← hsP] at hp cP
                rw [← hsQ] at hq cQ
                obtain ⟨bP, hbP⟩ : ∃ b, b = lsB lost c := ⟨_, rfl⟩
                obtain ⟨bQ, hbQ⟩ : ∃ b, b = lsB lost (c + 1) := ⟨_, rfl⟩
                rw [← hbP] at hp gP
                rw [← hbQ] at hq gQ
                have hK6 : Kp w w6 := K02.trans hK
                clear e0 e1 e2 hp0 hq0 hpR hqR hsP hsQ hbP hbQ hTs HCc HBb HW HO hRl K02 hk0 hk2' hK
                go_wp2_with fail
                refine hMk.mono ?_; rintro e w7 ⟨rfl, k7⟩
                replace gP := k7.held gP
                replace gQ := k7.held gQ
                replace cP := k7.held cP
                replace cQ := k7.held cQ
                have ho7 := k7.own hown
                have K7 := hK4.trans k7
                have hz7 := K7.size
                clear hMk hown hK4 k7
                have hp' : (bP = true ∧ pR = p0) ∨ (bP = false ∧ pR = sP) := by cases bP <;> simp at hp <;> simp [hp]
                have hq' : (bQ = true ∧ qR = q0) ∨ (bQ = false ∧ qR = sQ) := by cases bQ <;> simp at hq <;> simp [hq]
                clear hp hq
                rcases hp' with ⟨rfl, rfl⟩ | ⟨rfl, rfl⟩ <;> rcases hq' with ⟨rfl, rfl⟩ | ⟨rfl, rfl⟩
                all_goals (
                  go_wp2_with (at_builtin; refine wpList_append_own _ rfl _ _ 33 rfl w6.heap.size 9 i0 (.string ByteArray.empty) 1 16 Tryz.underlying33 hi hz0 hz1 hz2 rfl (by decide) _ _ _ rfl (ho7.alloc _) ⟨w7.heap.size, 0, none⟩ 1 1 [.string pR] rfl rfl ?f1 ?f2 ?f3 ?f4 ?f5 ?_)
                  (case f1 =>
                    intro j u hj
                    match j, hj with
                    | 0, hj => simp at hj; subst hj; simp [Addr.add])
                  (case f2 => intro u hu; simp at hu; subst hu; rfl)
                  (case f3 => unfold maxLen; omega)
                  (case f4 => omega)
                  (case f5 => simp; omega)
                  intro v8 w8 ho8 hg8 _
                  have K8 : Kp w6 w8 := (K7.alloc _).grown hg8 (own_lt ho7)
                  have hz8 := K8.size
                  clear hg8 ho7 K7 gP gQ cP cQ
                  go_wp2_with (at_builtin; refine wpList_append_own _ rfl _ _ 33 rfl w6.heap.size 9 i0 (.string ByteArray.empty) 1 16 Tryz.underlying33 hi hz0 hz1 hz2 rfl (by decide) _ _ _ rfl (ho8.alloc _) ⟨w8.heap.size, 0, none⟩ 1 1 [.string qR] rfl rfl ?h1 ?h2 ?h3 ?h4 ?h5 ?_)
                  (case h1 =>
                    intro j u hj
                    match j, hj with
                    | 0, hj => simp at hj; subst hj; simp [Addr.add])
                  (case h2 => intro u hu; simp at hu; subst hu; rfl)
                  (case h3 => unfold maxLen; omega)
                  (case h4 => omega)
                  (case h5 => simp; omega)
                  intro v9 w9 ho9 hg9 _
                  have K9 : Kp w6 w9 := (K8.alloc _).grown hg9 (own_lt ho8)
                  clear hg9 ho8 K8
                  go_wp2
                  go_ret2
                  exact ⟨_, rfl, own_strs (n := c + 1 + 1) (by rw [HRR.out]; simpa using ho9) (by rw [HRR.out]; simp [hTl]), hK6.trans K9⟩)
      · have hEn : (E == 0) = false := by rw [beq_eq_false_iff_ne]; exact h0
        go_wp2
        go_ret2
        exact ⟨_, rfl, by rw [HRE.out, if_neg h0]; exact .empty none 0 (by unfold maxLen; omega), k1.trans K2⟩

theorem rfix_any (w : World) (cv lv : Value) (L : List ByteArray) (lost : List Int) (hL : StrsIn w cv L) (hz : ∀ i, i < L.length → (L.getD i noS).size ≤ maxLen) (hI : IntsIn w lv lost) (hlo : lost.length * 8 ≤ 140737488355328) :
    Calls Tryz.prog 17 #[cv, lv] w fun e w' => ∃ v, e = .returned (.tuple #[v, .int .i64 (fxE L lost)]) ∧ StrsIn w' v (fxL L lost) ∧ Kp w w' := by
  by_cases hE : srE ((L.length : Int) - 2) lost = 0
  · obtain ⟨hk1, hk2, _, _⟩ := sr_zero hE
    obtain ⟨k, hk⟩ : ∃ k, L.length = k + 2 := ⟨L.length - 2, by omega⟩
    exact rfix_good w k cv lv L lost hL hz hI hlo hk (by rw [hk] at hE; rwa [show ((k + 2 : Nat) : Int) - 2 = (k : Int) by omega] at hE)
  · obtain ⟨e1, e2, e3⟩ := fx_not hE
    refine (rfix_bad w cv lv L lost hL hI hlo hE).mono ?_
    rintro e w' ⟨rfl, k⟩
    exact ⟨_, by rw [e1], by rw [e2]; exact .empty none 0 (by unfold maxLen; omega), k⟩

end Go.Proofs.YtbcmgogfpboibaaGreatDoor
