/-
  What Open finds behind a loss of power in a change of the label, in plain terms: the label ahead of it, or the one behind it. No condition.
-/
import Derived.Test.YtinpkfdmellleaaGreatZBdCr
namespace Go.Proofs.YtinpkfdmellleaaGreat
open Go.RowKit Plain
set_option linter.unusedVariables false

/-- what Open finds, where all that stands is the newest label N or an older one. -/
theorem opn_gen {D : BS} {N : LB} {z : Nat} (pw : D.pw = none) (ev : Ev D z) (len : (D.ms.length : Int) = N.n) (zs : 100 + N.s ≤ (z : Int)) (good : lg N = true) (he : N.ep + 1 ≤ 9007199254740992)
    (hsec : ∀ i, i < D.ms.length → ddB D i = false → ∀ j, j < 2 → gtE (sec_ D i j) = 0 → gtL (sec_ D i j) = N ∨ (gtL (sec_ D i j)).ep < N.ep) (hx : ∃ i, i < D.ms.length ∧ ddB D i = false ∧ ∃ j, j < 2 ∧ sec_ D i j = ptS N) :
    opnE D = 0 ∧ (opnK D).l = ⟨N.n, N.s, N.ep + 1, wdV D 1 D.ms.length N.sts, wdV D 0 D.ms.length N.mks⟩ ∧ (opnL D).ep = N.ep := by
  obtain ⟨g1, g2, g3, g4, g5, g6⟩ := (lg_iff _).1 good
  have hz : 2 ≤ z := by have := ((gg_iff _ _).1 g1).2.2.1; omega
  obtain ⟨C, e1, s1⟩ := rdF_ok pw ev hz (lvL 0 D.ms) D [] (Sm.refl D) (fun i hi => (lv_iff D i).1 hi)
  have hR : rdF (lvL 0 D.ms) D = (C, (lvL 0 D.ms).flatMap (fun i => [sec_ D i 0, sec_ D i 1]), false) := by
    unfold rdF
    rw [e1]; simp
  have hne : (lvL 0 D.ms).length ≠ 0 := fun h0 => by
    obtain ⟨i, h1, h2, _⟩ := hx
    have := (lv_iff D i).2 ⟨h1, h2⟩
    rw [List.eq_nil_of_length_eq_zero h0] at this
    cases this
  have hN := newest_all (l := (lvL 0 D.ms).flatMap (fun i => [sec_ D i 0, sec_ D i 1])) good (fun t ht hg => by
    obtain ⟨i, hi, ht2⟩ := List.mem_flatMap.1 ht
    obtain ⟨h1, h2⟩ := (lv_iff D i).1 hi
    simp only [List.mem_cons, List.not_mem_nil, or_false] at ht2
    rcases ht2 with rfl | rfl
    · exact hsec i h1 h2 0 (by omega) hg
    · exact hsec i h1 h2 1 (by omega) hg) (by
    obtain ⟨i, h1, h2, j, hj, hc⟩ := hx
    refine List.mem_flatMap.2 ⟨i, (lv_iff D i).2 ⟨h1, h2⟩, ?_⟩
    have : j = 0 ∨ j = 1 := by omega
    rcases this with rfl | rfl
    · rw [hc]; simp
    · rw [hc]; simp)
  have hL : opnL D = N := by unfold opnL; rw [hR]; exact hN.1
  have hQ : opnQ D = ⟨C, N⟩ := by unfold opnQ; rw [if_neg hne, hL, hR]
  have hft : ftB C N.n N.s = true := by
    rw [ft_yes (ev.sm s1) (by have := len; have := ((gg_iff _ _).1 g1).1; rw [s1.len]; omega) (by rw [s1.len]; exact len)]
    exact decide_eq_true zs
  have hX : opnX D = 0 := by
    unfold opnX
    rw [if_neg hne, hL, hR]
    dsimp only
    rw [if_neg (by simp), hN.2, if_neg (by simp), hft, if_neg (by simp)]
  obtain ⟨p1, p2, p3, p4, p5, p6⟩ := pub_ok (K := ⟨C, N⟩) (M := wdL C N) (z := z) (s1.pw.trans pw) (by show (C.ms.length : Int) = N.n; rw [s1.len]; exact len) (ev.sm s1) zs (wd_good good (by show 0 ≤ N.ep; omega) he) (by show 0 ≤ N.ep; omega) (fun i hi hd hg => by
    show (gtL (sec_ C i (N.ep % 2).toNat)).ep ≤ N.ep
    have hg2 : gtE (sec_ C i (N.ep % 2).toNat) = 0 := hg
    rw [sec_sm s1] at hg2 ⊢
    have hd2 : ddB D i = false := by rw [← dd_sm s1 i]; exact hd
    have hi2 : i < D.ms.length := by rw [← s1.len]; exact hi
    rcases hsec i hi2 hd2 _ (by omega) hg2 with e | e
    · rw [e]; exact Int.le_refl _
    · omega)
  have eE : opnE D = puE' ⟨C, N⟩ (wdL C N) := by unfold opnE; rw [if_pos hX, hQ]
  have eK : opnK D = puK ⟨C, N⟩ (wdL C N) := by unfold opnK; rw [if_pos hX, hQ]
  have ewd : ∀ v k l, wdV C v k l = wdV D v k l := fun v k l => by
    induction k with
    | zero => rfl
    | succ k ih => simp only [wdV]; rw [dd_sm s1, ih]
  have eN : nx ⟨C, N⟩ (wdL C N) = ⟨N.n, N.s, N.ep + 1, wdV D 1 D.ms.length N.sts, wdV D 0 D.ms.length N.mks⟩ := by
    unfold nx wdL
    dsimp only
    rw [s1.len, ewd, ewd]
  refine ⟨by rw [eE]; exact p1, by rw [eK, p2, eN], by rw [hL]⟩

/-- how the labels stand on members ahead of a change: those that live have L, or none at all. -/
structure Bh (B : BS) (L : LB) (z : Nat) : Prop where
  len : (B.ms.length : Int) = L.n
  ev : Ev B z
  ft : Ft B
  zs : 100 + L.s ≤ (z : Int)
  good : lg L = true
  cur : ∀ i, i < B.ms.length → ddB B i = false → sec_ B i (L.ep % 2).toNat = ptS L ∨ (gtE (sec_ B i (L.ep % 2).toNat) ≠ 0 ∧ gtE (sec_ B i ((L.ep + 1) % 2).toNat) ≠ 0)
  old : ∀ i, i < B.ms.length → ddB B i = false → gtE (sec_ B i ((L.ep + 1) % 2).toNat) = 0 → (gtL (sec_ B i ((L.ep + 1) % 2).toNat)).ep < L.ep
  one : ∃ i, i < B.ms.length ∧ ddB B i = false ∧ sec_ B i (L.ep % 2).toNat = ptS L
theorem opn_half {B D : BS} {L L' : LB} {z : Nat} {full : Bool} (b : Bh B L z) (h : Hv B ((L.ep + 1) % 2).toNat (ptS L') z full D) (g' : lg L' = true) (hn : L'.n = L.n) (hs : L'.s = L.s) (he' : L'.ep = L.ep + 1) (he : L.ep + 2 ≤ 9007199254740992) :
    ∃ N, (N = L ∨ N = L') ∧ (full = true → N = L') ∧ opnE D = 0 ∧ (opnK D).l = ⟨N.n, N.s, N.ep + 1, wdV D 1 D.ms.length N.sts, wdV D 0 D.ms.length N.mks⟩ ∧ (opnL D).ep = N.ep := by
  obtain ⟨g1, g2, g3, g4, g5, g6⟩ := (lg_iff _).1 b.good
  have hep : 1 ≤ L.ep := by omega
  obtain ⟨A, hA⟩ : ∃ A, A = ((L.ep + 1) % 2).toNat := ⟨_, rfl⟩
  obtain ⟨Q, hQ⟩ : ∃ Q, Q = (L.ep % 2).toNat := ⟨_, rfl⟩
  have hAQ : A ≠ Q ∧ A < 2 ∧ Q < 2 := by omega
  have bo := b.old
  have bc := b.cur
  have b1 := b.one
  rw [← hA] at h bo bc
  rw [← hQ] at bc b1
  -- the sector of the label that stands
  have hq : ∀ i, i < D.ms.length → ddB D i = false → sec_ D i Q = ptS L ∨ (gtE (sec_ D i Q) ≠ 0) := fun i hi hd => by
    have hi2 : i < B.ms.length := by rw [← h.len]; exact hi
    have hd2 : ddB B i = false := by rw [← h.dd i hi2]; exact hd
    rw [h.ot i Q hi2 hd2 (fun e => hAQ.1 e.symm)]
    exact (bc i hi2 hd2).imp id (fun h => h.1)
  by_cases hx : ∃ i, i < D.ms.length ∧ ddB D i = false ∧ sec_ D i A = ptS L'
  · obtain ⟨i, hi, hd, hs1⟩ := hx
    refine ⟨L', .inr rfl, fun _ => rfl, ?_⟩
    refine opn_gen h.pw h.ev (by rw [h.len, hn]; exact b.len) (by rw [hs]; exact b.zs) g' (by omega) (fun j hj hdj k hk hg => ?_) ⟨i, hi, hd, A, hAQ.2.1, hs1⟩
    have hj2 : j < B.ms.length := by rw [← h.len]; exact hj
    have hdj2 : ddB B j = false := by rw [← h.dd j hj2]; exact hdj
    by_cases e : k = A
    · subst e
      rcases h.at_ j hj2 hdj2 with e1 | e1
      · left; rw [e1]; exact (gt_pt g').2
      · right
        rw [e1] at hg ⊢
        have := bo j hj2 hdj2 hg
        omega
    · obtain rfl : k = Q := by omega
      right
      rcases hq j hj hdj with e1 | e1
      · rw [e1, (gt_pt b.good).2]; omega
      · exact absurd hg e1
  · have hno : ∀ j, j < D.ms.length → ddB D j = false → sec_ D j A = sec_ B j A := fun j hj hdj => by
      have hj2 : j < B.ms.length := by rw [← h.len]; exact hj
      have hdj2 : ddB B j = false := by rw [← h.dd j hj2]; exact hdj
      exact (h.at_ j hj2 hdj2).resolve_left (fun e => hx ⟨j, hj, hdj, e⟩)
    obtain ⟨i, hi, hd, hc⟩ := b1
    have hiD : i < D.ms.length := by rw [h.len]; exact hi
    have hdD : ddB D i = false := by rw [h.dd i hi]; exact hd
    refine ⟨L, .inl rfl, fun hf => (hx ⟨i, hiD, hdD, h.all_ hf i hi hd⟩).elim, ?_⟩
    refine opn_gen h.pw h.ev (by rw [h.len]; exact b.len) b.zs b.good (by omega) (fun j hj hdj k hk hg => ?_) ⟨i, hiD, hdD, Q, hAQ.2.2, by rw [h.ot i Q hi hd (fun e => hAQ.1 e.symm)]; exact hc⟩
    have hj2 : j < B.ms.length := by rw [← h.len]; exact hj
    have hdj2 : ddB B j = false := by rw [← h.dd j hj2]; exact hdj
    by_cases e : k = A
    · subst e
      right
      rw [hno j hj hdj] at hg ⊢
      exact bo j hj2 hdj2 hg
    · obtain rfl : k = Q := by omega
      rcases hq j hj hdj with e1 | e1
      · left; rw [e1]; exact (gt_pt b.good).2
      · exact absurd hg e1

end Go.Proofs.YtinpkfdmellleaaGreat
