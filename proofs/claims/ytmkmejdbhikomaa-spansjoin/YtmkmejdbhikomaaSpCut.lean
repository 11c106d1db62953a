/-
  Contract of spans' Cut: the places of a list and a span, in memory of the call's own. Condition: that the list's cells hold the spans.
-/
import Derived.Test.YtmkmejdbhikomaaSpBox
import Derived.Deep.DeepCutAuto
import Derived.Deep.RegionWith
import Derived.Deep.RegionHeld3
namespace Go.Proofs.Ytmkmejdbhikomaa
open Go.RowKit Plain
set_option linter.unusedVariables false

set_option maxRecDepth 100000 in
set_option maxHeartbeats 4000000 in
theorem cut_any (v : Value) (l : List (Int × Int)) (s : (Int × Int)) (w : World) (h : SpIn w v l) (hlen : l.length ≤ 1000) : Calls Try.prog 21 #[v, spV s] w (fun e w' => Res l s (fun p q => p && !q) w w' e) := by
  obtain ⟨a, b, off, cap, rfl, h⟩ := h
  obtain ⟨x, y⟩ := s
  obtain ⟨w0, hw0⟩ : ∃ w0, w0 = w.alloc (.cells #[.int .i64 x, .int .i64 y] 30) := ⟨_, rfl⟩
  have HW : Hid (w0 = w.alloc (.cells #[.int .i64 x, .int .i64 y] 30)) := hw0
  have k0 : Kp w w0 := by rw [hw0]; exact (Kp.refl w).alloc _
  have q0 : w0.cell? ⟨w.heap.size, 0, none⟩ = some (.int .i64 x) := by rw [hw0, World.cell?_alloc_at _ _ _ _ rfl]; rfl
  have q1 : w0.cell? ⟨w.heap.size, 1, none⟩ = some (.int .i64 y) := by rw [hw0, World.cell?_alloc_at _ _ _ _ rfl]; rfl
  clear hw0
  have hR := refuse_any (.slice a l.length cap) l (x, y) w0 ⟨a, b, off, cap, rfl, h.kept k0⟩
  have hle := h.le
  have hmx := h.mx
  unfold maxLen at hmx
  by_cases hz : rfE l (x, y) = 0
  · obtain ⟨hG, hg⟩ := rf_zero hz
    obtain ⟨g1, g2, g3⟩ := (gd_iff _).1 hg
    have hz2 : Hid (rfE l (x, y) = 0) := hz
    rw [hz] at hR
    have hM : ∀ w', Kp w0 w' → Calls Try.prog 31 #[.slice a l.length cap, spV (x, y)] w' fun e w'' => ∃ i j : Nat, e = .returned (.tuple #[.int .i64 i, .int .i64 j]) ∧ Mid l (x, y) i j ∧ Kp w' w'' :=
      fun w' k => reach_any _ l (x, y) w' ⟨a, b, off, cap, rfl, h.kept (k0.trans k)⟩ (by omega) hG g2
    obtain ⟨n, hn⟩ : ∃ n, n = l.length := ⟨_, rfl⟩
    have HN : Hid (n = l.length) := hn
    have HA : Hid (SpAt w a b off cap l) := h
    have HG : Hid (G l) := hG
    have HS : Hid (gd (x, y) = true) := hg
    rw [← hn] at hle hR hM hlen ⊢
    simp only [mA] at g1 g2 g3
    have hmin := @imin Try.prog
    have hmax := @imax Try.prog
    clear h hn hz hG hg
    unfold spV at hR hM ⊢
    go_enter Try.func21, Try.ntmps21
    go_wp2_with fail
    rw [show w.alloc (.cells #[.int .i64 x, .int .i64 y] 30) = w0 from HW.out.symm]
    clear HW
    refine hR.mono ?_; rintro e w1 ⟨rfl, k1⟩
    have r0 := k1.held q0
    have r1 := k1.held q1
    clear hR q0 q1
    go_wp2_with fail
    refine (hM w1 k1).mono ?_; rintro e w2 ⟨i, j, rfl, hmid, k2⟩
    have q0 := k2.held r0
    have q1 := k2.held r1
    have K2 : Hid (Kp w w2) := (k0.trans k1).trans k2
    have hb0 : w.heap.size < w2.heap.size := World.block_lt_of_cell? _ _ q0
    have hij := hmid.ij
    have hjn : j ≤ n := by rw [HN.out]; exact hmid.jl
    have HM : Hid (Mid l (x, y) i j) := hmid
    clear hM hmid k0 k1 k2 r0 r1
    have HP := HA.out.part i j hij (by rw [← HN.out]; exact hjn)
    have hml : ((l.take j).drop i).length = j - i := by rw [List.length_drop, List.length_take, ← HN.out]; omega
    have hsl := run_part a n cap i j hij (by omega)
    obtain ⟨M, hM⟩ : ∃ M, M = (l.take j).drop i := ⟨_, rfl⟩
    obtain ⟨a', ha'⟩ : ∃ a', a' = cutA a cap i := ⟨_, rfl⟩
    rw [← hM] at HP hml
    rw [← ha'] at HP hsl
    have hap := HP.ha
    rw [hml] at hap
    have HP2 : Hid (SpAt w a' b (off + i * 2) (cap - i) M) := HP
    have HML : Hid (M.length = j - i) := hml
    have HMM : Hid (M = (l.take j).drop i) := hM
    clear HP ha' hM hml
    obtain ⟨o', ho'⟩ : ∃ o', o' = off + i * 2 := ⟨_, rfl⟩
    rw [← ho'] at hap HP2
    clear ho'
    obtain ⟨i0, hi, hz0, hz1, hz3⟩ := info_parts elt26.i
    have hhd := run_head a n cap i (by omega)
    have htl := run_tail a n cap j (by omega) hle
    have HH : Hid (∀ W, Kp w W → SpIn W (.slice (cutA a cap 0) i cap) (l.take i)) := fun W k => (SpIn.head HA.out i (by rw [← HN.out]; omega)).kept k
    have HT0 : Hid (∀ W, Kp w W → SpIn W (.slice (cutA a cap j) (n - j) (cap - j)) (l.drop j)) := fun W k => by have := (SpIn.tail HA.out j (by rw [← HN.out]; omega)).kept k; rwa [← HN.out] at this
    have hti : Hid ((l.take i).length = i) := by rw [List.length_take, ← HN.out]; show _ = _; omega
    go_wp2_with fail
    go_cut [9] (fun q wx => Hid (Own wx w2.heap.size 30 q (l.take i)) ∧ Kp w2 wx)
    case first =>
      obtain ⟨w3, hmk, ho3, hg3⟩ := run_make_sp w2.drew w2.heap.size (Nat.le_refl _) (n + 1) (by omega)
      have k3 : Kp w2 w3 := ((Kp.refl w2).drew).grown hg3 (fun k hk => by cases hk)
      have hmk2 : (Instr.makeSlice 26 (.int .i64 0) (.int .i64 ((n : Int) + 1))).run Try.prog w2.drew = .ok (.slice (some ⟨w2.heap.size, 0, none⟩) 0 (n + 1)) w3 := hmk
      have HO3 : Hid (Own w3 w2.heap.size 30 (.slice (some ⟨w2.heap.size, 0, none⟩) 0 (n + 1)) []) := ho3
      have HK3 : Hid (Kp w2 w3) := k3
      have hwr : IntKind.i64.wrap ((n : Int) + 1) = (n : Int) + 1 := by rw [IntKind.wrap_i64]; omega
      clear ho3 hg3 k3 hmk
      go_region_law (refine step_append_sp (by rfl) (.tmp 28) (.tmp 31) 26 (by rfl) w2.heap.size 30 elt26 _ [] (by rfl) HO3.out _ (l.take i) (by rfl) (HH.out _ (K2.out.trans HK3.out)) (by rw [hti.out]; simp; omega) HK3.out.size ?_; intro u4 w4 ho4 hg4 hr4; have HO4 : Hid (Own w4 w2.heap.size 30 u4 (l.take i)) := ho4; have K4 : Hid (Kp w2 w4) := HK3.out.grown hg4 (fun q hq => own_lt HO3.out q hq))
      all_goals (go_wp2_with fail; go_meet)
      all_goals exact ⟨HO4, K4⟩
    obtain ⟨HO4, K4⟩ := hcut
    clear hi hz0 hz1 hz3 hhd HH
    have hL := less_any
    unfold spV lsV at hL
    go_wp2
    go_loopw [38, 9] (fun i1 q wr => ∃ k : Nat, k ≤ j - i ∧ i1 = .int .i64 k ∧ Hid (Own wr w2.heap.size 30 q (l.take i ++ cutL (x, y) (M.take k))) ∧ Kp w2 wr) (fun i1 _ _ => j - i - (intOf i1).toNat)
    case atStart => exact ⟨0, by omega, rfl, by simpa [cutL] using HO4, K4⟩
    case round =>
      clear HO4 K4
      obtain ⟨k, hk, rfl, HQ, hK⟩ := hrel
      have hJl : (l.take i ++ cutL (x, y) (M.take k)).length ≤ 3000 := by
        have h1 := cut_len (x, y) (M.take k)
        rw [List.length_take] at h1
        rw [List.length_append, hti.out]
        omega
      by_cases hlt : k < j - i
      · obtain rfl := hap (by omega)
        have hlt2 : k < M.length := by rw [HML.out]; exact hlt
        have c0 := (K2.out.trans hK).held (HP2.out.c0 k hlt2)
        have c1 := (K2.out.trans hK).held (HP2.out.c1 k hlt2)
        have HT : Hid (M.take (k + 1) = M.take k ++ [M.getD k (0, 0)]) := take_at M k hlt2
        have HD : Hid (M.drop k = M.getD k (0, 0) :: M.drop (k + 1)) := drop_at M k hlt2
        have HX : Hid (M.getD k (0, 0) ∈ M) := getD_mem M k hlt2
        obtain ⟨p, hp⟩ : ∃ p, p = M.getD k (0, 0) := ⟨_, rfl⟩
        rw [← hp] at c0 c1 HT HD HX
        clear hp hlt2
        obtain ⟨p1, p2⟩ := p
        simp only at c0 c1

        have hb1 : w.heap.size < wr.heap.size := by have := hK.size; omega
        have r0 := hK.held q0
        have r1 := hK.held q1
        have hL1 := hL (p1, p2) (x, y)
        simp only at hL1
        clear hL q0 q1
        go_wp2_with fail
        refine (hL1 _).mono ?_; rintro e' W1 ⟨rfl, l1⟩
        have KW : Hid (Kp wr W1) := ((Kp.refl wr).alloc _).trans l1
        have hsz : wr.heap.size < W1.heap.size := by have := l1.size; simp at this; omega
        clear hL1 l1 c0 c1 r0 r1
        go_wp2_with fail
        refine (put_two w2.heap.size _ (l.take i ++ cutL (x, y) (M.take k)) (p1, min p2 x) (max p1 y, p2) (W1.alloc (.cells #[.int .i64 p1, .int .i64 (min p2 x), .int .i64 (max p1 y), .int .i64 p2] 62)) W1.heap.size ((KW.out.own HQ.out : Own W1 w2.heap.size 30 _ _).alloc _) (by have := hK.size; simp; omega) (by omega) (fun q hq => by have := (HQ.out.lt q hq).2; omega) (by rw [World.cell?_alloc_at _ _ _ _ rfl]; rfl) (by rw [World.cell?_alloc_at _ _ _ _ rfl]; rfl) (by rw [World.cell?_alloc_at _ _ _ _ rfl]; rfl) (by rw [World.cell?_alloc_at _ _ _ _ rfl]; rfl)).mono ?_
        rintro e' W4 ⟨u, rfl, ho4, hg4, hr4⟩
        have HO4 : Hid (Own W4 w2.heap.size 30 u (l.take i ++ cutL (x, y) (M.take (k + 1)))) := by rw [HT.out, cut_app, ← List.append_assoc, cut_cons, show cutL (x, y) [] = [] from rfl, List.append_nil]; exact ho4
        have K4 : Kp w2 W4 := ((hK.trans KW.out).alloc _).grown hg4 (fun q hq => own_lt HQ.out q hq)
        clear ho4 hg4 hr4 HQ hK KW HT HX HD
        go_wp2
        go_roundw
        case rel => exact ⟨k + 1, by omega, by go_num, HO4, K4⟩
        case measure => simp [intOf]; omega
      · obtain rfl : k = j - i := by omega
        clear hL
        go_wp2_with (at_builtin; refine wpList_append_sp rfl _ _ 26 rfl w2.heap.size 30 elt26 _ _ rfl HQ.out _ (l.drop j) rfl (HT0.out _ (K2.out.trans hK)) ?c1 hK.size ?_; rotate_left; intro u2 w4 ho2 hg2 hr2)
        case c1 => rw [List.length_drop, ← HN.out]; omega
        have HO2 : Hid (Own w4 w2.heap.size 30 u2 (l.take i ++ (cutL (x, y) (M.take (j - i)) ++ l.drop j))) := by rw [← List.append_assoc]; exact ho2
        have K4 : Hid (Kp w2 w4) := hK.grown hg2 (fun q hq => own_lt HQ.out q hq)
        clear ho2 hg2 hr2 HQ q0 q1
        go_wp2
        go_ret2
        have hok := cut_ok HG.out HS.out
        have hc := cut_mid HG.out HS.out HM.out
        rw [← HMM.out] at hc
        have HO5 := HO2.out
        rw [← HML.out, List.take_length, ← hc] at HO5
        have hl := cut_len (x, y) l
        exact ⟨_, cutL (x, y) l, by rw [hz2.out]; rfl, HO5.sp, K2.out.trans K4.out, by omega, fun _ => hok, fun h => absurd hz2.out h⟩
  · have HR0 : Hid (rfE l (x, y) ≠ 0) := hz
    obtain ⟨E, hE⟩ : ∃ E, E = rfE l (x, y) := ⟨_, rfl⟩
    have HE : Hid (E = rfE l (x, y)) := hE
    rw [← hE] at hR hz
    clear hE
    unfold spV at hR ⊢
    go_enter Try.func21, Try.ntmps21
    go_wp2_with fail
    rw [show w.alloc (.cells #[.int .i64 x, .int .i64 y] 30) = w0 from HW.out.symm]
    clear HW
    refine hR.mono ?_; rintro e w1 ⟨rfl, k1⟩
    clear hR q0 q1
    go_wp2
    go_ret2
    exact ⟨_, [], by rw [← HE.out]; rfl, SpIn.nil _, k0.trans k1, by simp, fun h => absurd h HR0.out, fun _ => rfl⟩

end Go.Proofs.Ytmkmejdbhikomaa
