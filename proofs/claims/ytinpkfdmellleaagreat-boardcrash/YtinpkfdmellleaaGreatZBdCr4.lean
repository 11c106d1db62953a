/-
  BoardCrash's last change in plain terms: whatever of it is done, Open finds the states ahead of it or those behind it. No condition.
-/
import Derived.Test.YtinpkfdmellleaaGreatZBdCr3
namespace Go.Proofs.YtinpkfdmellleaaGreat
open Go.RowKit Plain
set_option linter.unusedVariables false

structure Fin (K K' : KS) (E : Int) (ch : Nat → Prop) (z : Nat) (D : BS) : Prop where
  e : opnE D = 0
  ep : K.l.ep < (opnK D).l.ep
  lp : (opnL D).ep ≤ K.l.ep + 1
  r1 : ∀ i, i < K.b.ms.length → (opnK D).l.sts.getD i 0 ≠ K.l.sts.getD i 0 ∨ (opnK D).l.mks.getD i 0 ≠ K.l.mks.getD i 0 → ch i
  r2 : E = 0 → ∀ i, i < K.b.ms.length → (opnK D).l.sts.getD i 0 = K'.l.sts.getD i 0 ∧ (opnK D).l.mks.getD i 0 = K'.l.mks.getD i 0
  n : (opnK D).l.sts.length = K.b.ms.length ∧ (opnK D).l.mks.length = K.b.ms.length
  ev : Ev D z
theorem wd_len (D : BS) (v : Int) (l : List Int) (k : Nat) : (wdV D v k l).length = l.length := wdV_len D v l k
theorem set_atI (l : List Int) (m : Nat) (v : Int) (i : Nat) (hi : i < l.length) : (l.set m v).getD i 0 = if i = m then v else l.getD i 0 := by
  by_cases e : i = m
  · subst e; rw [if_pos rfl]; exact getD_set_eq hi _ _
  · rw [if_neg e]; exact getD_set_ne (fun h => e h.symm) _ _

theorem fin_pub {K K1 : KS} {z : Nat} (hL : K1.l = K.l) (hl : K1.b.ms.length = K.b.ms.length) (b : Bh K1.b K.l z) (m : Nat) (hm : m < K.b.ms.length) (st mk : Int) (hmh : mh st mk K.l.s = true) (he : K.l.ep + 2 ≤ 9007199254740992)
    (dk : ∀ i, i < K.b.ms.length → ddB K1.b i = true → (i = m ∧ st = 1 ∧ mk = 0) ∨ (i ≠ m ∧ K.l.sts.getD i 0 = 1 ∧ K.l.mks.getD i 0 = 0)) (ks : Nat → List Nat) :
    Fin K (puK K1 (chL K.l m st mk)) (puE' K1 (chL K.l m st mk)) (fun i => i = m) z (crB (puK K1 (chL K.l m st mk)).b ks) := by
  obtain ⟨g1, g2, g3, g4, g5, g6⟩ := (lg_iff _).1 b.good
  have hep : 1 ≤ K.l.ep := by omega
  have good' : lg (nx K1 (chL K.l m st mk)) = true := ch_good b.good (by rw [hL]; omega) (by rw [hL]; omega) m st mk hmh
  obtain ⟨L', eL'⟩ : ∃ L', L' = nx K1 (chL K.l m st mk) := ⟨_, rfl⟩
  have hz2 : 2 ≤ z := by have := b.zs; have := ((gg_iff _ _).1 g1).2.2.1; omega
  obtain ⟨a, ea⟩ : ∃ a, a = ((K.l.ep + 1) % 2).toNat := ⟨_, rfl⟩
  have ha : a < 2 := by omega
  have eai : (K1.l.ep + 1) % 2 = (a : Int) := by rw [hL]; omega
  have hp : puS (nx K1 (chL K.l m st mk)) = ptS L' := by rw [eL']; exact if_pos good'
  obtain ⟨r, er⟩ : ∃ r, r = pbR K1 (chL K.l m st mk) := ⟨_, rfl⟩
  have hpc : PcI a (ptS L') K1.b (fun j => j ∈ lvL 0 K1.b.ms) r := by
    have := pb_all (a := a) (s := ptS L') b.ev b.ft (ptS_size _) (by omega)
    rw [er]
    unfold pbR
    rw [eai, hp]
    exact this
  have hv := hv_of hpc b.ev b.ft (by omega) (fun i hi hd => (lv_iff K1.b i).2 ⟨hi, hd⟩) ks
  have hKb : (puK K1 (chL K.l m st mk)).b = r.1 := by rw [er]; rfl
  have hKl : (puK K1 (chL K.l m st mk)).l = if r.2 = true then K.l else L' := by rw [er, eL', ← hL]; rfl
  have hE : puE' K1 (chL K.l m st mk) = if r.2 = true then 21 else 0 := by rw [er]; rfl
  rw [hKb]
  obtain ⟨D, eD⟩ : ∃ D, D = crB r.1 ks := ⟨_, rfl⟩
  rw [← eD] at hv ⊢
  rw [ea] at hv
  obtain ⟨N, hN, hF, o1, o2, o3⟩ := opn_half (L' := L') b hv (by rw [eL']; exact good') (by rw [eL']; rfl) (by rw [eL']; rfl) (by rw [eL']; show K1.l.ep + 1 = _; rw [hL]) he
  have hsL : K.l.sts.length = K.b.ms.length := by have := b.len; omega
  have hmL : K.l.mks.length = K.b.ms.length := by have := b.len; omega
  have hs' : L'.sts = K.l.sts.set m st := by rw [eL']; rfl
  have hm' : L'.mks = K.l.mks.set m mk := by rw [eL']; rfl
  have hNs : N.sts.length = K.b.ms.length ∧ N.mks.length = K.b.ms.length := by
    rcases hN with rfl | rfl
    · exact ⟨hsL, hmL⟩
    · rw [hs', hm', List.length_set, List.length_set]; exact ⟨hsL, hmL⟩
  have hDl : D.ms.length = K.b.ms.length := by rw [hv.len]; exact hl
  have at1 : ∀ i, i < K.b.ms.length → (opnK D).l.sts.getD i 0 = if ddB K1.b i = true then 1 else N.sts.getD i 0 := fun i hi => by
    rw [o2]
    show (wdV D 1 D.ms.length N.sts).getD i 0 = _
    rw [wdV_at D 1 N.sts D.ms.length i (by rw [hNs.1]; exact hi), hv.dd i (by rw [hl]; exact hi)]
    by_cases hd : ddB K1.b i = true
    · rw [if_pos ⟨by rw [hDl]; exact hi, hd⟩, if_pos hd]
    · rw [if_neg (fun h => hd h.2), if_neg hd]
  have at2 : ∀ i, i < K.b.ms.length → (opnK D).l.mks.getD i 0 = if ddB K1.b i = true then 0 else N.mks.getD i 0 := fun i hi => by
    rw [o2]
    show (wdV D 0 D.ms.length N.mks).getD i 0 = _
    rw [wdV_at D 0 N.mks D.ms.length i (by rw [hNs.2]; exact hi), hv.dd i (by rw [hl]; exact hi)]
    by_cases hd : ddB K1.b i = true
    · rw [if_pos ⟨by rw [hDl]; exact hi, hd⟩, if_pos hd]
    · rw [if_neg (fun h => hd h.2), if_neg hd]
  have hNe : K.l.ep ≤ N.ep ∧ N.ep ≤ K.l.ep + 1 := by
    rcases hN with rfl | rfl
    · omega
    · rw [eL']; show K.l.ep ≤ K1.l.ep + 1 ∧ K1.l.ep + 1 ≤ _; rw [hL]; omega
  refine ⟨o1, ?_, by rw [o3]; exact hNe.2, fun i hi hne => ?_, fun e0 i hi => ?_, ?_, hv.ev⟩
  · rw [o2]
    show K.l.ep < N.ep + 1
    omega
  · show i = m
    by_cases him : i = m
    · exact him
    exfalso
    rw [at1 i hi, at2 i hi] at hne
    by_cases hd : ddB K1.b i = true
    · rw [if_pos hd, if_pos hd] at hne
      rcases dk i hi hd with ⟨e, _⟩ | ⟨_, e1, e2⟩
      · exact him e
      · rw [e1, e2] at hne; simp at hne
    · rw [if_neg hd, if_neg hd] at hne
      rcases hN with rfl | rfl
      · simp at hne
      · rw [hs', hm', set_atI _ _ _ _ (by rw [hsL]; exact hi), set_atI _ _ _ _ (by rw [hmL]; exact hi), if_neg him, if_neg him] at hne
        simp at hne
  · rw [hE] at e0
    have hr2 : r.2 = false := by
      cases h : r.2 with
      | false => rfl
      | true => rw [h] at e0; simp at e0
    obtain rfl := hF (by rw [hr2]; rfl)
    rw [at1 i hi, at2 i hi, hKl, hr2]
    simp only [Bool.false_eq_true, if_false]
    by_cases hd : ddB K1.b i = true
    · rw [if_pos hd, if_pos hd, hs', hm', set_atI _ _ _ _ (by rw [hsL]; exact hi), set_atI _ _ _ _ (by rw [hmL]; exact hi)]
      rcases dk i hi hd with ⟨e, e1, e2⟩ | ⟨e, e1, e2⟩
      · rw [if_pos e, if_pos e, e1, e2]; exact ⟨rfl, rfl⟩
      · rw [if_neg e, if_neg e, e1, e2]; exact ⟨rfl, rfl⟩
    · rw [if_neg hd, if_neg hd]
      exact ⟨rfl, rfl⟩
  · rw [o2]
    show (wdV D 1 _ N.sts).length = _ ∧ (wdV D 0 _ N.mks).length = _
    rw [wdV_len, wdV_len]
    exact hNs

/-- nothing was changed: all stays. -/
theorem fin_none {K : KS} {z : Nat} (q : Bq K z) (hl : ∃ i, i < K.b.ms.length ∧ ddB K.b i = false) (he : K.l.ep + 2 ≤ 9007199254740992) (n : Int) (ks : Nat → List Nat) (E : Int) : Fin K ⟨ctB K.b n, K.l⟩ E (fun _ => False) z (crB (ctB K.b n) ks) := by
  obtain ⟨g1, g2, g3, g4, g5, g6⟩ := (lg_iff _).1 q.bo.good
  have hat : ∀ i, i < K.b.ms.length → (crB (ctB K.b n) ks).ms.getD i noM = cr (K.b.ms.getD i noM) (bit (ks i)) := fun i hi => by
    show (crM ks 0 K.b.ms.length K.b.ms).getD i noM = _
    have := crM_atH ks K.b.ms.length K.b.ms 0 i hi (by omega)
    rw [Nat.zero_add] at this
    exact this
  have hlD : (crB (ctB K.b n) ks).ms.length = K.b.ms.length := by show (crM ks 0 _ _).length = _; rw [crM_lenH]; rfl
  have hdd : ∀ i, i < K.b.ms.length → ddB (crB (ctB K.b n) ks) i = ddB K.b i := fun i hi => by unfold ddB; rw [hat i hi]; rfl
  have hsec : ∀ i j, i < K.b.ms.length → ddB K.b i = false → sec_ (crB (ctB K.b n) ks) i j = sec_ K.b i j := fun i j hi hd => by
    obtain ⟨f1, f2⟩ := q.ft i hi hd
    unfold sec_
    rw [hat i hi]
    unfold cr
    rw [f1, f2]
    rfl
  have hev : Ev (crB (ctB K.b n) ks) z := fun i hi => by
    have hi2 : i < K.b.ms.length := by rw [← hlD]; exact hi
    rw [hat i hi2]
    unfold cr
    dsimp only
    rw [pl_len]
    exact ⟨(q.bo.ev i hi2).1, (q.bo.ev i hi2).1⟩
  have hbo : Bo (crB (ctB K.b n) ks) K.l z := by
    refine ⟨rfl, by rw [hlD]; exact q.bo.len, hev, q.bo.zs, q.bo.good, fun i hi hd => ?_, fun i hi hd hg => ?_⟩
    · have hi2 : i < K.b.ms.length := by rw [← hlD]; exact hi
      have hd2 : ddB K.b i = false := by rw [← hdd i hi2]; exact hd
      rw [hsec i _ hi2 hd2]; exact q.bo.cur i hi2 hd2
    · have hi2 : i < K.b.ms.length := by rw [← hlD]; exact hi
      have hd2 : ddB K.b i = false := by rw [← hdd i hi2]; exact hd
      rw [hsec i _ hi2 hd2] at hg ⊢
      exact q.bo.old i hi2 hd2 hg
  obtain ⟨o1, o2, o3, _⟩ := opn_ok hbo (by omega) (by
    obtain ⟨i, h1, h2⟩ := hl
    exact ⟨i, by rw [hlD]; exact h1, by rw [hdd i h1]; exact h2⟩)
  have hsL : K.l.sts.length = K.b.ms.length := by have := q.bo.len; omega
  have hmL : K.l.mks.length = K.b.ms.length := by have := q.bo.len; omega
  have at1 : ∀ i, i < K.b.ms.length → (opnK (crB (ctB K.b n) ks)).l.sts.getD i 0 = K.l.sts.getD i 0 ∧ (opnK (crB (ctB K.b n) ks)).l.mks.getD i 0 = K.l.mks.getD i 0 := fun i hi => by
    rw [o3]
    show (wdV _ 1 _ K.l.sts).getD i 0 = _ ∧ (wdV _ 0 _ K.l.mks).getD i 0 = _
    rw [wdV_at _ 1 K.l.sts _ i (by rw [hsL]; exact hi), wdV_at _ 0 K.l.mks _ i (by rw [hmL]; exact hi), hdd i hi, hlD]
    by_cases hd : ddB K.b i = true
    · obtain ⟨e1, e2⟩ := q.dk i hi hd
      rw [if_pos ⟨hi, hd⟩, if_pos ⟨hi, hd⟩, e1, e2]
      exact ⟨rfl, rfl⟩
    · rw [if_neg (fun h => hd h.2), if_neg (fun h => hd h.2)]
      exact ⟨rfl, rfl⟩
  refine ⟨o1, by rw [o3]; show K.l.ep < K.l.ep + 1; omega, by rw [o2]; omega, fun i hi hne => ?_, fun _ i hi => at1 i hi, ?_, hev⟩
  · obtain ⟨e1, e2⟩ := at1 i hi
    exact hne.elim (fun h => h e1) (fun h => h e2)
  · rw [o3]
    show (wdV _ 1 _ K.l.sts).length = _ ∧ (wdV _ 0 _ K.l.mks).length = _
    rw [wdV_len, wdV_len]
    exact ⟨hsL, hmL⟩

end Go.Proofs.YtinpkfdmellleaaGreat
