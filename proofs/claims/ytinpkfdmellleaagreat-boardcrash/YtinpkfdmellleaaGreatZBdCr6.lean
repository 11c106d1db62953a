/-
  With the power whole an array stands between calls as it should (BoardCrash's script), in plain terms. No condition.
-/
import Derived.Test.YtinpkfdmellleaaGreatZBdCr5
namespace Go.Proofs.YtinpkfdmellleaaGreat
open Go.RowKit Plain
set_option linter.unusedVariables false

structure Stp (K K' : KS) (z : Nat) : Prop where
  q : Bq K' z
  e : K'.l.ep ≤ K.l.ep + 1
  g : K'.b.g ≤ K.b.g + 64
  len : K'.b.ms.length = K.b.ms.length
theorem Stp.same {K : KS} {z : Nat} (q : Bq K z) : Stp K K z := ⟨q, by omega, by omega, rfl⟩
theorem stp_of {K K1 K' : KS} {z : Nat} {E : Int} {M : Nat} {st mk : Int} (q : Bq K z) (hM : M < K.b.ms.length) (c : Chg K K' E (nx K (chL K.l M st mk)) z) (eK : K' = puK K1 (chL K.l M st mk)) (pw : K1.b.pw = none) (l1 : K1.b.ms.length = K.b.ms.length) (dd : ∀ i, ddB K'.b i = ddB K1.b i) (gd : Gd K'.b)
    (dk : ∀ i, i < K.b.ms.length → ddB K1.b i = true → (i = M ∧ st = 1 ∧ mk = 0) ∨ (i ≠ M ∧ ddB K.b i = true)) : Stp K K' z := by
  have hg := (lg_iff _).1 q.bo.good
  have hsL : K.l.sts.length = K.b.ms.length := by have := q.bo.len; have := hg.2.2.2.1; omega
  have hmL : K.l.mks.length = K.b.ms.length := by have := q.bo.len; have := hg.2.2.2.2.1; omega
  have bo : Bo K'.b K'.l z := by rw [c.l]; exact c.bo
  refine ⟨⟨bo, ?_, fun i hi hd => ?_⟩, by rw [c.l]; exact Int.le_refl _, c.g, c.len⟩
  · rw [eK]
    refine pub_ft pw (fun i => by rw [← eK]; exact dd i) (by rw [← eK, c.len, l1]) (by rw [← eK]; exact gd)
  · have hi2 : i < K.b.ms.length := by rw [← c.len]; exact hi
    rw [c.l]
    show (K.l.sts.set M st).getD i 0 = 1 ∧ (K.l.mks.set M mk).getD i 0 = 0
    rw [set_atI _ _ _ _ (by rw [hsL]; exact hi2), set_atI _ _ _ _ (by rw [hmL]; exact hi2)]
    rcases dk i hi2 (by rw [← dd i]; exact hd) with ⟨e, e1, e2⟩ | ⟨e, e1⟩
    · rw [if_pos e, if_pos e]; exact ⟨e1, e2⟩
    · rw [if_neg e, if_neg e]; exact q.dk i hi2 e1
theorem stp_fail {K : KS} {z : Nat} (q : Bq K z) (he : K.l.ep + 1 ≤ 9007199254740992) (m : Int) (gd : Gd (bfK K m).b) : Stp K (bfK K m) z := by
  by_cases hin : inK K m
  · by_cases hk : knK K m = true
    · have e : bfK K m = K := by unfold bfK; rw [if_pos hin, if_pos hk]
      rw [e]; exact Stp.same q
    · obtain ⟨M, rfl, hM⟩ := in_nat q.bo hin
      have hk' : knK K (M : Int) = false := by simpa using hk
      obtain ⟨c, d⟩ := fail_ok q.bo he M (by have := hin.2; exact this) hk'
      have eK : bfK K (M : Int) = puK (faK K M) (chL K.l M 1 0) := by unfold bfK; rw [if_pos hin, if_neg hk, Int.toNat_natCast]
      exact stp_of q hM c eK q.bo.pw (put_len _ _ _) (fun i => by rw [d i]; exact (dd_fa hM i).symm) gd (fun i hi hd => by
        have hd2 : ddB (put K.b (M : Int) (fa (bm K.b (M : Int)))) i = true := hd
        rw [dd_fa hM] at hd2
        by_cases e : i = M
        · exact .inl ⟨e, rfl, rfl⟩
        · rw [if_neg e] at hd2; exact .inr ⟨e, hd2⟩)
  · have e : bfK K m = K := by unfold bfK; rw [if_neg hin]
    rw [e]; exact Stp.same q
theorem stp_rep {K : KS} {z : Nat} (q : Bq K z) (he : K.l.ep + 1 ≤ 9007199254740992) (m : Int) (gd : Gd (brK K m).b) : Stp K (brK K m) z := by
  by_cases hin : inK K m
  · by_cases hs : K.l.sts.getD m.toNat 0 = 1
    · obtain ⟨M, rfl, hM⟩ := in_nat q.bo hin
      obtain ⟨c, d⟩ := rep_ok q.bo he M (by have := hin.2; exact this) (by rw [Int.toNat_natCast] at hs; exact hs)
      have eK : brK K (M : Int) = puK (rpK K M) (chL K.l M 2 0) := by unfold brK; rw [if_pos hin, if_pos hs, Int.toNat_natCast]
      exact stp_of q hM c eK q.bo.pw (put_len _ _ _) (fun i => by rw [d i]; exact (dd_rp hM i).symm) gd (fun i hi hd => by
        have hd2 : ddB (put K.b (M : Int) (rp (bm K.b (M : Int)))) i = true := hd
        rw [dd_rp hM] at hd2
        by_cases e : i = M
        · rw [if_pos e] at hd2; cases hd2
        · rw [if_neg e] at hd2; exact .inr ⟨e, hd2⟩)
    · have e : brK K m = K := by unfold brK; rw [if_pos hin, if_neg hs]
      rw [e]; exact Stp.same q
  · have e : brK K m = K := by unfold brK; rw [if_neg hin]
    rw [e]; exact Stp.same q
theorem stp_adv {K : KS} {z : Nat} (q : Bq K z) (he : K.l.ep + 1 ≤ 9007199254740992) (m t : Int) (gd : Gd (baK K m t).b) : Stp K (baK K m t) z := by
  by_cases hx : baX K m t = 0
  · have hin : inK K m := by
      by_cases h : inK K m
      · exact h
      · unfold baX at hx; rw [if_neg h] at hx; cases hx
    obtain ⟨M, rfl, hM⟩ := in_nat q.bo hin
    have hs : K.l.sts.getD M 0 = 2 := by
      have hx2 := hx
      unfold baX at hx2
      rw [if_pos hin, Int.toNat_natCast] at hx2
      by_cases h : K.l.mks.getD M 0 ≤ t ∧ t ≤ K.l.s
      · rw [if_pos h] at hx2
        by_cases h2 : K.l.sts.getD M 0 = 2
        · exact h2
        · rw [if_neg h2] at hx2; cases hx2
      · rw [if_neg h] at hx2; cases hx2
    obtain ⟨c, d⟩ := adv_ok q.bo he M t hx
    have eK : baK K (M : Int) t = puK K (baM K M t) := if_pos hx
    have hdk : ∀ st mk i, i < K.b.ms.length → ddB K.b i = true → (i = M ∧ (st : Int) = 1 ∧ (mk : Int) = 0) ∨ (i ≠ M ∧ ddB K.b i = true) := fun st mk i hi hd => .inr ⟨(fun e => by
      have h1 := (q.dk i hi hd).1
      rw [e, hs] at h1
      exact absurd h1 (by decide)), hd⟩
    by_cases h : t = K.l.s
    · have eM : baM K (M : Int) t = chL K.l M 0 0 := by unfold baM; rw [if_pos h, Int.toNat_natCast]
      rw [eM] at c eK
      exact stp_of q hM c eK q.bo.pw rfl d gd (hdk 0 0)
    · have eM : baM K (M : Int) t = chL K.l M 2 t := by unfold baM; rw [if_neg h, Int.toNat_natCast]
      rw [eM] at c eK
      exact stp_of q hM c eK q.bo.pw rfl d gd (hdk 2 t)
  · have e : baK K m t = K := if_neg hx
    rw [e]; exact Stp.same q
/-- the array that Open answers. -/
theorem bq_open {B : BS} {L : LB} {z : Nat} (h : Bo B L z) (he : L.ep + 1 ≤ 9007199254740992) (hl : ∃ i, i < B.ms.length ∧ ddB B i = false) (gd : Gd (opnK B).b) (hd : ∀ i, ddB B i = false) : Bq (opnK B) z := by
  obtain ⟨C, hQ, hX, hL, s1⟩ := opn_read h hl
  obtain ⟨_, _, o3, o4, o5, _, o7⟩ := opn_ok h he hl
  have eK : opnK B = puK ⟨C, L⟩ (wdL C L) := by unfold opnK; rw [if_pos hX, hQ]
  refine ⟨o4, ?_, fun i hi h1 => ?_⟩
  · rw [eK]
    refine pub_ft (s1.pw.trans h.pw) (fun i => by rw [← eK, o5 i]; exact (dd_sm s1 i).symm) (by rw [← eK, o7]; exact s1.len.symm) (by rw [← eK]; exact gd)
  · rw [o5 i, hd i] at h1
    cases h1

end Go.Proofs.YtinpkfdmellleaaGreat
