/-
  Contract of the document's Add. Conditions: that the object lies in memory as RX says.
-/
import Derived.Test.YtcmomebjkbhboaaLfRef
namespace Go.Proofs.Ytcmomebjkbhboaa
open Go.RowKit Plain
set_option linter.unusedVariables false

set_option maxRecDepth 100000 in
theorem radd_out (a : Nat) (b : Int) (w : World) (hb : b < 0 ∨ 1099511627776 ≤ b) : Calls Try.prog 15 #[.pointer (some ⟨a, 0, none⟩), .int .i64 b] w fun e w' => e = .returned (.int .i64 3) ∧ Kp w w' := by
  rcases hb with hb | hb
  · have h1 : decide (b < 0) = true := by simp [hb]
    go_enter Try.func15, Try.ntmps15
    go_wp2
    go_ret
    exact ⟨rfl, Kp.refl w⟩
  · have h1 : decide (b < 0) = false := by simp; omega
    have h2 : decide (1099511627776 ≤ b) = true := by simp [hb]
    go_enter Try.func15, Try.ntmps15
    go_wp2
    go_ret
    exact ⟨rfl, Kp.refl w⟩
set_option maxRecDepth 100000 in
set_option maxHeartbeats 2000000 in
theorem radd_hit {w0 w : World} {a : Nat} {T : List Nat} {S : LS} (h : RX w0 w a T S) (hl : S.L.length ≤ 1000) (b : Int) (hb : ¬ (b < 0 ∨ 1099511627776 ≤ b)) (hh : hsW S.L b = true) : Calls Try.prog 15 #[.pointer (some ⟨a, 0, none⟩), .int .i64 b] w fun e w' => e = .returned (.int .i64 11) ∧ Kp w w' := by
  have h1 : decide (b < 0) = false := by simp; omega
  have h2 : decide (1099511627776 ≤ b) = false := by simp; omega
  have hF := rfind_any h hl b
  have HH := hid hh
  clear h hh
  go_enter Try.func15, Try.ntmps15
  go_wp2_with fail
  refine hF.mono ?_; rintro e w1 ⟨z, rfl, hz, rfl⟩
  have hz0 : 0 ≤ z := by
    rcases fi_hs hz with ⟨_, _, h⟩ | ⟨h, _⟩
    · rw [HH.out] at h; cases h
    · exact h
  have hz1 : decide (0 ≤ z) = true := decide_eq_true hz0
  clear hz hF
  go_wp2
  go_ret
  exact ⟨rfl, Kp.refl _⟩
set_option maxRecDepth 100000 in
set_option maxHeartbeats 2000000 in
theorem radd_full {w0 w : World} {a : Nat} {T : List Nat} {S : LS} (h : RX w0 w a T S) (hl : S.L.length ≤ 1000) (b : Int) (hb : ¬ (b < 0 ∨ 1099511627776 ≤ b)) (hh : hsW S.L b = false) (hf : 256 ≤ S.L.length) : Calls Try.prog 15 #[.pointer (some ⟨a, 0, none⟩), .int .i64 b] w fun e w' => e = .returned (.int .i64 10) ∧ Kp w w' := by
  have h1 : decide (b < 0) = false := by simp; omega
  have h2 : decide (1099511627776 ≤ b) = false := by simp; omega
  have hF := rfind_any h hl b
  have HH := hid hh
  obtain ⟨pk, ck, pw, cw, ho, _⟩ := RL.obj h
  rw [List.length_map, List.length_map] at ho
  have c0 := cell_of ho 2
  obtain ⟨n, hn⟩ : ∃ n, n = S.L.length := ⟨_, rfl⟩
  have c1 : w.cell? ⟨a, 2, none⟩ = some (.slice pk n ck) := by rw [hn]; exact c0
  rw [← hn] at hf hl
  have hf2 : decide ((256 : Int) ≤ (n : Int)) = true := by simp; omega
  clear h ho hh hn c0
  go_enter Try.func15, Try.ntmps15
  go_wp2_with fail
  refine hF.mono ?_; rintro e w1 ⟨z, rfl, hz, rfl⟩
  have hz0 : z = -1 := by
    rcases fi_hs hz with ⟨_, h, _⟩ | ⟨_, h⟩
    · exact h
    · rw [HH.out] at h; cases h
  subst hz0
  clear hz hF
  go_wp2
  go_ret
  exact ⟨rfl, Kp.refl _⟩
set_option maxRecDepth 100000 in
set_option maxHeartbeats 4000000 in
theorem radd_new {w0 w : World} {a : Nat} {T : List Nat} {S : LS} (h : RX w0 w a T S) (hl : S.L.length ≤ 1000) (b : Int) (hb : ¬ (b < 0 ∨ 1099511627776 ≤ b)) (hh : hsW S.L b = false) (hf : S.L.length < 256) : Calls Try.prog 15 #[.pointer (some ⟨a, 0, none⟩), .int .i64 b] w fun e w' => e = .returned (.int .i64 0) ∧ Nz RX w0 w w' a T ⟨S.L ++ [⟨b, 0⟩], S.g, S.h⟩ := by
  have h1 : decide (b < 0) = false := by simp; omega
  have h2 : decide (1099511627776 ≤ b) = false := by simp; omega
  have hF := rfind_any h hl b
  have HH := hid hh
  obtain ⟨lk, hlk⟩ : ∃ lk, lk = S.L.map Wt.k := ⟨_, rfl⟩
  obtain ⟨lw, hlw⟩ : ∃ lw, lw = S.L.map Wt.n := ⟨_, rfl⟩
  have h' : RL w0 w a T S.g S.h lk lw := by rw [hlk, hlw]; exact h
  have HE : Hid (lk ++ [b] = (S.L ++ [(⟨b, 0⟩ : Wt)]).map Wt.k ∧ lw ++ [0] = (S.L ++ [(⟨b, 0⟩ : Wt)]).map Wt.n) := ⟨by rw [hlk, List.map_append]; rfl, by rw [hlw, List.map_append]; rfl⟩
  have hk1 : lk.length < 256 := by rw [hlk, List.length_map]; exact hf
  have hw1 : lw.length < 256 := by rw [hlw, List.length_map]; exact hf
  obtain ⟨pk, ck, pw, cw, ho, hok, how, hsz⟩ := RL.obj h'
  have HX := hid (And.intro h' (And.intro ho (And.intro hok hsz)))
  obtain ⟨n, hn⟩ : ∃ n, n = lk.length := ⟨_, rfl⟩
  have c2 : w.cell? ⟨a, 2, none⟩ = some (.slice pk n ck) := by rw [hn]; exact cell_of ho 2
  have hf2 : decide ((256 : Int) ≤ (n : Int)) = false := by simp; omega
  have HN := hid hn
  have HKL := hid (And.intro hk1 hw1)
  clear h h' ho hok how hsz hh hlk hlw hk1 hw1 hn
  go_enter Try.func15, Try.ntmps15
  go_wp2_with fail
  refine hF.mono ?_; rintro e w1 ⟨z, rfl, hz, rfl⟩
  have hz0 : z = -1 := by
    rcases fi_hs hz with ⟨_, h, _⟩ | ⟨_, h⟩
    · exact h
    · rw [HH.out] at h; cases h
  subst hz0
  clear hz hF HH
  go_upto_region 9 with (at_builtin; refine wpList_append_int2 rfl _ _ rfl w0.heap.size _ lk (by rw [HN.out]; rfl) (HX.out.2.2.1.alloc _) b _ rfl (by rw [World.cell?_alloc_at _ _ _ _ rfl]; rfl) (by have := HKL.out; omega) (by have := HX.out.2.2.2; simp; omega) ?_; intro u2 w2 ho2 hg2 hr2; have kA := (Kp.refl w1).alloc (.cells #[.int .i64 b] 3); have hq := (HX.out.1.kept kA).setk (kA.held (cell_of HX.out.2.1 2)) (grown_sp hg2) ho2 (hr2.elim .inl (fun h => .inr (fun N hN => by rw [h] at hN; cases hN; exact Nat.le_refl _))); obtain ⟨pu, nu, cu, rfl⟩ := ho2.slc; have hh2 := hq.1.trans ((kA.block a (heap_lt HX.out.2.1)).trans HX.out.2.1); have d2 := cell_of hh2 2; have f2 := frozen_of hh2 2; have HQ := hid hq.2; clear hq hh2 ho2 hg2 hr2)
  obtain ⟨T2, r2, s2, n2⟩ := HQ.out
  obtain ⟨W2, hW2⟩ : ∃ W2, W2 = w2.setCell ⟨a, 2, none⟩ (.slice pu nu cu) := ⟨_, rfl⟩
  rw [← hW2] at r2 s2 ⊢
  obtain ⟨pk2, ck2, pw2, cw2, ho, hok, how, hsz⟩ := RL.obj r2
  have HX2 := hid (And.intro r2 (And.intro ho (And.intro how hsz)))
  have c3 : W2.cell? ⟨a, 3, none⟩ = some (.slice pw2 lw.length cw2) := cell_of ho 3
  have HS2 : Hid (Sp T w1 W2 ∧ Nw w1 T T2) := ⟨(kA.sp _).trans s2, (Nw.refl w1 T).trans n2 kA.size⟩
  clear r2 s2 n2 ho hok how hsz HQ HX d2 f2 kA hW2 c2
  go_wp2_with (at_builtin; refine wpList_append_int2 rfl _ _ rfl w0.heap.size _ lw rfl (HX2.out.2.2.1.alloc _) 0 _ rfl (by rw [World.cell?_alloc_at _ _ _ _ rfl]; rfl) (by have := HKL.out; omega) (by have := HX2.out.2.2.2; simp; omega) ?_; intro u3 w3 ho3 hg3 hr3; have kB := (Kp.refl W2).alloc (.cells #[.int .i64 0] 3); have hq := (HX2.out.1.kept kB).setw (kB.held (cell_of HX2.out.2.1 3)) (grown_sp hg3) ho3 (hr3.elim .inl (fun h => .inr (fun N hN => by rw [h] at hN; cases hN; exact Nat.le_refl _))); obtain ⟨pu3, nu3, cu3, rfl⟩ := ho3.slc; have hh3 := hq.1.trans ((kB.block a (heap_lt HX2.out.2.1)).trans HX2.out.2.1); have d3 := cell_of hh3 3; have f3 := frozen_of hh3 3; have HQ3 := hid hq.2; clear hq hh3 ho3 hg3 hr3)
  go_ret
  obtain ⟨T3, r3, s3, n3⟩ := HQ3.out
  refine ⟨rfl, T3, ?_, HS2.out.1.then ((kB.sp _).trans s3) HS2.out.2, HS2.out.2.trans ((Nw.refl W2 T2).trans n3 kB.size) HS2.out.1.size⟩
  show RL w0 _ a T3 S.g S.h ((S.L ++ [(⟨b, 0⟩ : Wt)]).map Wt.k) ((S.L ++ [(⟨b, 0⟩ : Wt)]).map Wt.n)
  rw [← HE.out.1, ← HE.out.2]
  exact r3
theorem radd_any {w0 w : World} {a : Nat} {T : List Nat} {S : LS} (h : RX w0 w a T S) (hl : S.L.length ≤ 1000) (b : Int) : Calls Try.prog 15 #[.pointer (some ⟨a, 0, none⟩), .int .i64 b] w fun e w' => e = .returned (.int .i64 (adE S b)) ∧ Nz RX w0 w w' a T (adS S b) := by
  by_cases hb : b < 0 ∨ 1099511627776 ≤ b
  · have he : adE S b = 3 := by unfold adE; rw [if_pos hb]
    refine (radd_out a b w hb).mono ?_
    rintro e w' ⟨rfl, k⟩
    exact ⟨by rw [he], by rw [ad_no (by rw [he]; decide)]; exact Nz.of OL.rx h k⟩
  · cases hh : hsW S.L b with
    | true =>
      have he : adE S b = 11 := by unfold adE; rw [if_neg hb, if_pos hh]
      refine (radd_hit h hl b hb hh).mono ?_
      rintro e w' ⟨rfl, k⟩
      exact ⟨by rw [he], by rw [ad_no (by rw [he]; decide)]; exact Nz.of OL.rx h k⟩
    | false =>
      by_cases hf : 256 ≤ S.L.length
      · have he : adE S b = 10 := by unfold adE; rw [if_neg hb, if_neg (by rw [hh]; decide), if_pos hf]
        refine (radd_full h hl b hb hh hf).mono ?_
        rintro e w' ⟨rfl, k⟩
        exact ⟨by rw [he], by rw [ad_no (by rw [he]; decide)]; exact Nz.of OL.rx h k⟩
      · have he : adE S b = 0 := by unfold adE; rw [if_neg hb, if_neg (by rw [hh]; decide), if_neg hf]
        refine (radd_new h hl b hb hh (by omega)).mono ?_
        rintro e w' ⟨rfl, k⟩
        exact ⟨by rw [he], by rw [ad_ok he]; exact k⟩

end Go.Proofs.Ytcmomebjkbhboaa
