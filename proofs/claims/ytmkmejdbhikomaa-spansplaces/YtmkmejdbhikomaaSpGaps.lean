/-
  Contract of spans' Gaps: the places of a list and a span, in memory of the call's own. Condition: that the list's cells hold the spans.
-/
import Derived.Test.YtmkmejdbhikomaaSpBox
namespace Go.Proofs.Ytmkmejdbhikomaa
open Go.RowKit Plain
set_option linter.unusedVariables false

set_option maxRecDepth 100000 in
set_option maxHeartbeats 4000000 in
theorem gaps_any (v : Value) (l : List (Int × Int)) (s : (Int × Int)) (w : World) (h : SpIn w v l) (hlen : l.length ≤ 1000) : Calls Try.prog 23 #[v, spV s] w (fun e w' => Res l s (fun p q => q && !p) w w' e) := by
  obtain ⟨a, b, off, cap, rfl, h⟩ := h
  obtain ⟨x, y⟩ := s
  obtain ⟨w0, hw0⟩ : ∃ w0, w0 = w.alloc (.cells #[.int .i64 x, .int .i64 y] 30) := ⟨_, rfl⟩
  have HW : Hid (w0 = w.alloc (.cells #[.int .i64 x, .int .i64 y] 30)) := hw0
  have k0 : Kp w w0 := by rw [hw0]; exact (Kp.refl w).alloc _
  have q0 : w0.cell? ⟨w.heap.size, 0, none⟩ = some (.int .i64 x) := by rw [hw0, World.cell?_alloc_at _ _ _ _ rfl]; rfl
  have q1 : w0.cell? ⟨w.heap.size, 1, none⟩ = some (.int .i64 y) := by rw [hw0, World.cell?_alloc_at _ _ _ _ rfl]; rfl
  have hbx : Hid (Bx w0 w.heap.size (x, y)) := by rw [hw0]; exact Bx.new w (x, y)
  clear hw0
  have hR := refuse_any (.slice a l.length cap) l (x, y) w0 ⟨a, b, off, cap, rfl, h.kept k0⟩
  have hle := h.le
  have hmx := h.mx
  unfold maxLen at hmx
  by_cases hz : rfE l (x, y) = 0
  · obtain ⟨hG, hg⟩ := rf_zero hz
    obtain ⟨g1, g2, g3⟩ := (gd_iff _).1 hg
    have hz2 : Hid (rfE l (x, y) = 0) := hz
    rw [hz] at hR
    have hM : ∀ w', Kp w0 w' → Calls Try.prog 31 #[.slice a l.length cap, spV (x, y)] w' fun e w'' => ∃ i j : Nat, e = .returned (.tuple #[.int .i64 i, .int .i64 j]) ∧ Mid l (x, y) i j ∧ Kp w' w'' :=
      fun w' k => reach_any _ l (x, y) w' ⟨a, b, off, cap, rfl, h.kept (k0.trans k)⟩ (by omega) hG g2
    obtain ⟨n, hn⟩ : ∃ n, n = l.length := ⟨_, rfl⟩
    have HN : Hid (n = l.length) := hn
    have HA : Hid (SpAt w a b off cap l) := h
    have HG : Hid (G l) := hG
    have HS : Hid (gd (x, y) = true) := hg
    rw [← hn] at hle hR hM hlen ⊢
    simp only [mA] at g1 g2 g3
    have hmin := @imin Try.prog
    have hmax := @imax Try.prog
    clear h hn hz hG hg
    unfold spV at hR hM ⊢
    go_enter Try.func23, Try.ntmps23
    go_wp2_with fail
    rw [show w.alloc (.cells #[.int .i64 x, .int .i64 y] 30) = w0 from HW.out.symm]
    clear HW
    refine hR.mono ?_; rintro e w1 ⟨rfl, k1⟩
    have r0 := k1.held q0
    have r1 := k1.held q1
    clear hR q0 q1
    go_wp2_with fail
    refine (hM w1 k1).mono ?_; rintro e w2 ⟨i, j, rfl, hmid, k2⟩
    have q0 := k2.held r0
    have q1 := k2.held r1
    have K2 : Hid (Kp w w2) := (k0.trans k1).trans k2
    have HBX : Hid (Bx w2 w.heap.size (x, y)) := (hbx.out.kept k1).kept k2
    have hb0 : w.heap.size < w2.heap.size := World.block_lt_of_cell? _ _ q0
    have hij := hmid.ij
    have hjn : j ≤ n := by rw [HN.out]; exact hmid.jl
    have HM : Hid (Mid l (x, y) i j) := hmid
    clear hM hmid k0 k1 k2 r0 r1
    have HP := HA.out.part i j hij (by rw [← HN.out]; exact hjn)
    have hml : ((l.take j).drop i).length = j - i := by rw [List.length_drop, List.length_take, ← HN.out]; omega
    have hsl := run_part a n cap i j hij (by omega)
    obtain ⟨M, hM⟩ : ∃ M, M = (l.take j).drop i := ⟨_, rfl⟩
    obtain ⟨a', ha'⟩ : ∃ a', a' = cutA a cap i := ⟨_, rfl⟩
    rw [← hM] at HP hml
    rw [← ha'] at HP hsl
    have hap := HP.ha
    rw [hml] at hap
    have HP2 : Hid (SpAt w a' b (off + i * 2) (cap - i) M) := HP
    have HML : Hid (M.length = j - i) := hml
    have HMM : Hid (M = (l.take j).drop i) := hM
    clear HP ha' hM hml
    obtain ⟨o', ho'⟩ : ∃ o', o' = off + i * 2 := ⟨_, rfl⟩
    rw [← ho'] at hap HP2
    clear ho'
    obtain ⟨i0, hi, hz0, hz1, hz3⟩ := info_parts elt26.i
    go_wp2_with (at_make; refine wpList_make_own _ rfl _ _ 26 rfl (w.heap.size + 1) 30 i0 (.agg #[.int .i64 0, .int .i64 0]) 2 Try.underlying26 hi hz0 hz1 .i64 .i64 _ (j - i + 1) rfl rfl (by omega) (by rw [hz3]; omega) (by unfold maxLen; omega) (by omega) ?_; intro w3 hown3 hgrow3)
    have k3 : Hid (Kp w2 w3) := (Kp.refl w2).grown hgrow3 (fun k hk => by cases hk)
    have ho3 : Hid (Own w3 (w.heap.size + 1) 30 (.slice (some ⟨w2.heap.size, 0, none⟩) 0 (j - i + 1)) []) := hown3
    clear hown3 hgrow3 hi hz0 hz1 hz3 q0 q1 hbx
    have hL := less_any
    unfold spV lsV at hL
    go_loopw [35, 9] (fun i1 q wr => ∃ k : Nat, ∃ c : Int, ∃ J : List (Int × Int), k ≤ j - i ∧ i1 = .int .i64 k ∧ Hid (Own wr (w.heap.size + 1) 30 q J) ∧ Hid (Bx wr w.heap.size (c, y)) ∧ Hid (gapL (x, y) M = J ++ gapL (c, y) (M.drop k)) ∧ Kp w wr) (fun i1 _ _ => j - i - (intOf i1).toNat)
    case atStart => exact ⟨0, x, [], by omega, rfl, ho3, HBX.out.kept k3, by rfl, K2.out.trans k3⟩
    case round =>
      clear ho3 k3
      obtain ⟨k, c, J, hk, rfl, HQ, HBk, HJ, hK⟩ := hrel
      have hJl : J.length ≤ j - i + 1 := by
        have h1 := gap_len M (x, y)
        rw [HJ.out, List.length_append, HML.out] at h1
        omega
      have hbw := HBk.out.lt
      have r0 := HBk.out.c0
      have r1 := HBk.out.c1
      simp only at r0 r1
      by_cases hlt : k < j - i
      · obtain rfl := hap (by omega)
        have hlt2 : k < M.length := by rw [HML.out]; exact hlt
        have c0 := hK.held (HP2.out.c0 k hlt2)
        have c1 := hK.held (HP2.out.c1 k hlt2)
        have HT : Hid (M.take (k + 1) = M.take k ++ [M.getD k (0, 0)]) := take_at M k hlt2
        have HD : Hid (M.drop k = M.getD k (0, 0) :: M.drop (k + 1)) := drop_at M k hlt2
        have HX : Hid (M.getD k (0, 0) ∈ M) := getD_mem M k hlt2
        obtain ⟨p, hp⟩ : ∃ p, p = M.getD k (0, 0) := ⟨_, rfl⟩
        rw [← hp] at c0 c1 HT HD HX
        clear hp hlt2
        obtain ⟨p1, p2⟩ := p
        simp only at c0 c1

        have hL1 := hL (c, y) (p1, p2)
        simp only at hL1
        clear hL
        go_wp2_with fail
        refine (hL1 _).mono ?_; rintro e' W1 ⟨rfl, l1⟩
        have KW : Hid (Kp wr W1) := ((Kp.refl wr).alloc _).trans l1
        have hsz : wr.heap.size < W1.heap.size := by have := l1.size; simp at this; omega
        have s0 := KW.out.held r0
        have s1 := KW.out.held r1
        clear hL1 l1 c0 c1 r0 r1
        go_wp2_with fail
        refine (put_one (w.heap.size + 1) _ J (c, min y p1) (W1.alloc (.cells #[.int .i64 c, .int .i64 (min y p1), .int .i64 (max c p2), .int .i64 y] 62)) _ (by simp) ((KW.out.own HQ.out : Own W1 (w.heap.size + 1) 30 _ J).alloc _) (by simp; omega) (by omega)).mono ?_
        rintro e' W4 ⟨u, rfl, ho4, hg4, hr4⟩
        have HO4 : Hid (Own W4 (w.heap.size + 1) 30 u (J ++ pt (c, min y p1))) := ho4
        have hrow : ∀ q, _ = some q → w.heap.size + 1 ≤ q ∧ q < wr.heap.size := fun q hq => HQ.out.lt q hq
        have hB4 : Bx W4 w.heap.size (c, y) := ((HBk.out.kept (KW.out.alloc _)).grown hg4 (fun q hq => by have := hrow q hq; omega))
        have HB4 : Hid (Bx W4 w.heap.size (c, y)) := hB4
        have t0 := hB4.c0
        have t1 := hB4.c1
        have tz := hB4.z
        simp only at t0 t1
        have d2 : W4.cell? ⟨W1.heap.size, 2, none⟩ = some (.int .i64 (max c p2)) := grown_cell hg4 (by rw [World.cell?_alloc_at _ _ _ _ rfl]; rfl) (fun q hq => by have := hrow q hq; omega)
        have d3 : W4.cell? ⟨W1.heap.size, 3, none⟩ = some (.int .i64 y) := grown_cell hg4 (by rw [World.cell?_alloc_at _ _ _ _ rfl]; rfl) (fun q hq => by have := hrow q hq; omega)
        have K4 : Hid (Kp w W4) := ((hK.trans KW.out).alloc _).grown hg4 (fun q hq => by have := hrow q hq; omega)
        have HJ2 : Hid (gapL (x, y) M = (J ++ pt (c, min y p1)) ++ gapL (max c p2, y) (M.drop (k + 1))) := by rw [HJ.out, HD.out, List.append_assoc]; rfl
        clear ho4 hg4 hr4 hB4 HQ HBk HJ hK KW s0 s1 HT HX HD hrow
        go_wp2
        go_roundw
        case rel => exact ⟨k + 1, max c p2, J ++ pt (c, min y p1), by omega, by go_num, HO4.out.put2 (by omega) (max c p2, y), HB4.out.put (max c p2, y), HJ2, K4.out.put2 (by omega) (max c p2, y)⟩
        case measure => simp [intOf]; omega
      · obtain rfl : k = j - i := by omega
        clear hL
        go_wp2_with fail
        refine (put_one (w.heap.size + 1) _ J (c, y) wr _ (by simp) HQ.out (by omega) (by omega)).mono ?_
        rintro e' W4 ⟨u, rfl, ho4, hg4, hr4⟩
        have K4 : Hid (Kp w W4) := hK.grown hg4 (fun q hq => by have := (HQ.out.lt q hq).1; omega)
        have HO4 : Hid (Own W4 (w.heap.size + 1) 30 u (J ++ pt (c, y))) := ho4
        clear ho4 hg4 hr4 HQ r0 r1
        go_wp2
        go_ret2
        have hok := gap_ok HG.out HS.out
        rw [gap_mid HG.out HM.out, ← HMM.out] at hok
        have hJ := HJ.out
        rw [← HML.out, List.drop_length] at hJ
        have hl := gap_len M (x, y)
        rw [HML.out] at hl
        have HO5 := HO4.out
        rw [show J ++ pt (c, y) = gapL (x, y) M from hJ.symm] at HO5
        exact ⟨_, gapL (x, y) M, by rw [hz2.out]; rfl, HO5.sp, K4.out, by rw [← HN.out]; omega, fun _ => hok, fun h => absurd hz2.out h⟩
  · have HR0 : Hid (rfE l (x, y) ≠ 0) := hz
    obtain ⟨E, hE⟩ : ∃ E, E = rfE l (x, y) := ⟨_, rfl⟩
    have HE : Hid (E = rfE l (x, y)) := hE
    rw [← hE] at hR hz
    clear hE
    unfold spV at hR ⊢
    go_enter Try.func23, Try.ntmps23
    go_wp2_with fail
    rw [show w.alloc (.cells #[.int .i64 x, .int .i64 y] 30) = w0 from HW.out.symm]
    clear HW
    refine hR.mono ?_; rintro e w1 ⟨rfl, k1⟩
    clear hR q0 q1
    go_wp2
    go_ret2
    exact ⟨_, [], by rw [← HE.out]; rfl, SpIn.nil _, k0.trans k1, by simp, fun h => absurd h HR0.out, fun _ => rfl⟩

end Go.Proofs.Ytmkmejdbhikomaa
