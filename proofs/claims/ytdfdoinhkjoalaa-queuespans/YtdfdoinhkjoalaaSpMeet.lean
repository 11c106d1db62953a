/-
  Contract of spans' Meet: the places of a list and a span, in memory of the call's own. Condition: that the list's cells hold the spans.
-/
import Derived.Test.YtdfdoinhkjoalaaSpPut
namespace Go.Proofs.Ytdfdoinhkjoalaa
open Go.RowKit Plain
set_option linter.unusedVariables false

/-- what a call of a list and a span comes to. -/
def Res (l : List (Int × Int)) (s : (Int × Int)) (f : Bool → Bool → Bool) (w w' : World) (e : Ending) : Prop := ∃ u R, e = .returned (.tuple #[u, .int .i64 (rfE l s)]) ∧ SpIn w' u R ∧ Kp w w' ∧ R.length ≤ 2 * l.length + 1 ∧ (rfE l s = 0 → G R ∧ ∀ x, hs R x = f (hs l x) (inS s x)) ∧ (rfE l s ≠ 0 → R = [])
theorem rf_zero {l : List (Int × Int)} {s : (Int × Int)} (h : rfE l s = 0) : G l ∧ gd s = true := by
  unfold rfE at h
  split at h
  · rename_i h1
    split at h
    · rename_i h2
      exact ⟨(gL_iff l).1 h1, h2⟩
    · cases h
  · cases h
theorem rf_of {l : List (Int × Int)} {s : (Int × Int)} (h : G l) (hg : gd s = true) : rfE l s = 0 := (if_pos ((gL_iff l).2 h)).trans (if_pos hg)
set_option maxRecDepth 100000 in
set_option maxHeartbeats 4000000 in
theorem meet_any (v : Value) (l : List (Int × Int)) (s : (Int × Int)) (w : World) (h : SpIn w v l) (hlen : l.length ≤ 1000) : Calls Try.prog 36 #[v, spV s] w (fun e w' => Res l s (fun p q => p && q) w w' e) := by
  obtain ⟨a, b, off, cap, rfl, h⟩ := h
  obtain ⟨x, y⟩ := s
  obtain ⟨w0, hw0⟩ : ∃ w0, w0 = w.alloc (.cells #[.int .i64 x, .int .i64 y] 76) := ⟨_, rfl⟩
  have HW : Hid (w0 = w.alloc (.cells #[.int .i64 x, .int .i64 y] 76)) := hw0
  have k0 : Kp w w0 := by rw [hw0]; exact (Kp.refl w).alloc _
  have q0 : w0.cell? ⟨w.heap.size, 0, none⟩ = some (.int .i64 x) := by rw [hw0, World.cell?_alloc_at _ _ _ _ rfl]; rfl
  have q1 : w0.cell? ⟨w.heap.size, 1, none⟩ = some (.int .i64 y) := by rw [hw0, World.cell?_alloc_at _ _ _ _ rfl]; rfl
  clear hw0
  have hR := refuse_any (.slice a l.length cap) l (x, y) w0 ⟨a, b, off, cap, rfl, h.kept k0⟩
  have hle := h.le
  have hmx := h.mx
  unfold maxLen at hmx
  by_cases hz : rfE l (x, y) = 0
  · obtain ⟨hG, hg⟩ := rf_zero hz
    obtain ⟨g1, g2, g3⟩ := (gd_iff _).1 hg
    have hz2 : Hid (rfE l (x, y) = 0) := hz
    rw [hz] at hR
    have hM : ∀ w', Kp w0 w' → Calls Try.prog 46 #[.slice a l.length cap, spV (x, y)] w' fun e w'' => ∃ i j : Nat, e = .returned (.tuple #[.int .i64 i, .int .i64 j]) ∧ Mid l (x, y) i j ∧ Kp w' w'' :=
      fun w' k => reach_any _ l (x, y) w' ⟨a, b, off, cap, rfl, h.kept (k0.trans k)⟩ (by omega) hG g2
    obtain ⟨n, hn⟩ : ∃ n, n = l.length := ⟨_, rfl⟩
    have HN : Hid (n = l.length) := hn
    have HA : Hid (SpAt w a b off cap l) := h
    have HG : Hid (G l) := hG
    have HS : Hid (gd (x, y) = true) := hg
    rw [← hn] at hle hR hM hlen ⊢
    simp only [mA] at g1 g2 g3
    have hmin := @imin Try.prog
    have hmax := @imax Try.prog
    clear h hn hz hG hg
    unfold spV at hR hM ⊢
    go_enter Try.func36, Try.ntmps36
    go_wp2_with fail
    rw [show w.alloc (.cells #[.int .i64 x, .int .i64 y] 76) = w0 from HW.out.symm]
    clear HW
    refine hR.mono ?_; rintro e w1 ⟨rfl, k1⟩
    have r0 := k1.held q0
    have r1 := k1.held q1
    clear hR q0 q1
    go_wp2_with fail
    refine (hM w1 k1).mono ?_; rintro e w2 ⟨i, j, rfl, hmid, k2⟩
    have q0 := k2.held r0
    have q1 := k2.held r1
    have K2 : Hid (Kp w w2) := (k0.trans k1).trans k2
    have hb0 : w.heap.size < w2.heap.size := World.block_lt_of_cell? _ _ q0
    have hij := hmid.ij
    have hjn : j ≤ n := by rw [HN.out]; exact hmid.jl
    have HM : Hid (Mid l (x, y) i j) := hmid
    clear hM hmid k0 k1 k2 r0 r1
    have HP := HA.out.part i j hij (by rw [← HN.out]; exact hjn)
    have hml : ((l.take j).drop i).length = j - i := by rw [List.length_drop, List.length_take, ← HN.out]; omega
    have hsl := run_part a n cap i j hij (by omega)
    obtain ⟨M, hM⟩ : ∃ M, M = (l.take j).drop i := ⟨_, rfl⟩
    obtain ⟨a', ha'⟩ : ∃ a', a' = cutA a cap i := ⟨_, rfl⟩
    rw [← hM] at HP hml
    rw [← ha'] at HP hsl
    have hap := HP.ha
    rw [hml] at hap
    have HP2 : Hid (SpAt w a' b (off + i * 2) (cap - i) M) := HP
    have HML : Hid (M.length = j - i) := hml
    have HMM : Hid (M = (l.take j).drop i) := hM
    clear HP ha' hM hml
    obtain ⟨o', ho'⟩ : ∃ o', o' = off + i * 2 := ⟨_, rfl⟩
    rw [← ho'] at hap HP2
    clear ho'
    obtain ⟨i0, hi, hz0, hz1, hz3⟩ := info_parts elt26.i
    go_wp2_with (at_make; refine wpList_make_own _ rfl _ _ 51 rfl w2.heap.size 76 i0 (.agg #[.int .i64 0, .int .i64 0]) 2 Try.underlying51 hi hz0 hz1 .i64 .i64 _ (j - i) rfl rfl (by omega) (by rw [hz3]; omega) (by unfold maxLen; omega) (by omega) ?_; intro w3 hown3 hgrow3)
    have k3 : Hid (Kp w2 w3) := (Kp.refl w2).grown hgrow3 (fun k hk => by cases hk)
    have ho3 : Hid (Own w3 w2.heap.size 76 (.slice (some ⟨w2.heap.size, 0, none⟩) 0 (j - i)) []) := hown3
    clear hown3 hgrow3 hi hz0 hz1 hz3
    go_loopw [33, 9] (fun i1 q wr => ∃ k : Nat, k ≤ j - i ∧ i1 = .int .i64 k ∧ Hid (Own wr w2.heap.size 76 q ((M.take k).map (mt (x, y)))) ∧ Kp w2 wr) (fun i1 _ _ => j - i - (intOf i1).toNat)
    case atStart => exact ⟨0, by omega, rfl, by simpa using ho3, k3⟩
    case round =>
      clear ho3 k3
      obtain ⟨k, hk, rfl, HQ, hK⟩ := hrel
      by_cases hlt : k < j - i
      · obtain rfl := hap (by omega)
        have hlt2 : k < M.length := by rw [HML.out]; exact hlt
        have c0 := (K2.out.trans hK).held (HP2.out.c0 k hlt2)
        have c1 := (K2.out.trans hK).held (HP2.out.c1 k hlt2)
        have HT : Hid (M.take (k + 1) = M.take k ++ [M.getD k (0, 0)]) := take_at M k hlt2
        have HD : Hid (M.drop k = M.getD k (0, 0) :: M.drop (k + 1)) := drop_at M k hlt2
        have HX : Hid (M.getD k (0, 0) ∈ M) := getD_mem M k hlt2
        obtain ⟨p, hp⟩ : ∃ p, p = M.getD k (0, 0) := ⟨_, rfl⟩
        rw [← hp] at c0 c1 HT HD HX
        clear hp hlt2
        obtain ⟨p1, p2⟩ := p
        simp only at c0 c1

        have hb1 : w.heap.size < wr.heap.size := by have := hK.size; omega
        have r0 := hK.held q0
        have r1 := hK.held q1
        clear q0 q1
        go_wp2_with (at_builtin; refine wpList_append_sp rfl _ _ 51 rfl w2.heap.size 76 elt26 _ ((M.take k).map (mt (x, y))) rfl (((HQ.out : Own wr w2.heap.size 76 _ _).alloc _).alloc _) _ [mt (x, y) (p1, p2)] rfl (SpIn.lit2 _ (mt (x, y) (p1, p2)) _ _ (by simp)) ?c1 ?c2 ?_; rotate_left; rotate_left; intro u2 w4 ho2 hg2 hr2)
        case c1 => have h1 : M.length = j - i := HML.out; omega
        case c2 => have h1 := hK.size; omega
        have HO2 : Hid (Own w4 w2.heap.size 76 u2 ((M.take (k + 1)).map (mt (x, y)))) := by rw [HT.out, List.map_append]; exact ho2
        have K4 : Kp w2 w4 := ((hK.alloc _).alloc _).grown hg2 (fun q hq => own_lt HQ.out q hq)
        clear ho2 hg2 hr2 hK HQ r0 r1 c0 c1 HT HX HD
        go_wp2
        go_roundw
        case rel => exact ⟨k + 1, by omega, by go_num, HO2, K4⟩
        case measure => simp [intOf]; omega
      · obtain rfl : k = j - i := by omega
        clear q0 q1
        go_wp2
        go_ret2
        have HF := HQ.out
        rw [← HML.out, List.take_length] at HF
        have hok := met_ok HG.out HS.out HM.out
        rw [← HMM.out] at hok
        exact ⟨_, M.map (mt (x, y)), by rw [hz2.out]; rfl, HF.sp, K2.out.trans hK, by rw [List.length_map, HML.out, ← HN.out]; omega, fun _ => hok, fun h => absurd hz2.out h⟩
  · have HR0 : Hid (rfE l (x, y) ≠ 0) := hz
    obtain ⟨E, hE⟩ : ∃ E, E = rfE l (x, y) := ⟨_, rfl⟩
    have HE : Hid (E = rfE l (x, y)) := hE
    rw [← hE] at hR hz
    clear hE
    unfold spV at hR ⊢
    go_enter Try.func36, Try.ntmps36
    go_wp2_with fail
    rw [show w.alloc (.cells #[.int .i64 x, .int .i64 y] 76) = w0 from HW.out.symm]
    clear HW
    refine hR.mono ?_; rintro e w1 ⟨rfl, k1⟩
    clear hR q0 q1
    go_wp2
    go_ret2
    exact ⟨_, [], by rw [← HE.out]; rfl, SpIn.nil _, k0.trans k1, by simp, fun h => absurd h HR0.out, fun _ => rfl⟩

end Go.Proofs.Ytdfdoinhkjoalaa
