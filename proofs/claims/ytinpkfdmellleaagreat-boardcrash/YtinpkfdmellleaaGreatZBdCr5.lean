/-
  BoardCrash's changes one by one, in plain terms: with the power whole an array stands as it should between calls; with the power cut Open finds one of both. No condition.
-/
import Derived.Test.YtinpkfdmellleaaGreatZBdCr4
namespace Go.Proofs.YtinpkfdmellleaaGreat
open Go.RowKit Plain
set_option linter.unusedVariables false

def ctK (K : KS) (n : Int) : KS := ⟨ctB K.b n, K.l⟩
/-- two that live. -/
def Two (B : BS) : Prop := ∃ i j, i < B.ms.length ∧ j < B.ms.length ∧ i ≠ j ∧ ddB B i = false ∧ ddB B j = false
theorem Two.one {B : BS} (h : Two B) : ∃ i, i < B.ms.length ∧ ddB B i = false := by
  obtain ⟨i, j, h1, _, _, h2, _⟩ := h
  exact ⟨i, h1, h2⟩
theorem Two.other {B : BS} (h : Two B) (m : Nat) : ∃ i, i < B.ms.length ∧ i ≠ m ∧ ddB B i = false := by
  obtain ⟨i, j, h1, h2, h3, h4, h5⟩ := h
  by_cases e : i = m
  · exact ⟨j, h2, fun e2 => h3 (e.trans e2.symm), h5⟩
  · exact ⟨i, h1, e, h4⟩
theorem two_of {B : BS} (h : 2 ≤ (lvL 0 B.ms).length) : Two B := by
  have hn := (lvL_nodup B.ms 0).1
  match hl : lvL 0 B.ms, h with
  | x :: y :: r, _ =>
    rw [hl] at hn
    have h1 := (lv_iff B x).1 (by rw [hl]; simp)
    have h2 := (lv_iff B y).1 (by rw [hl]; simp)
    exact ⟨x, y, h1.1, h2.1, fun e => (List.nodup_cons.1 hn).1 (by rw [e]; simp), h1.2, h2.2⟩
theorem in_nat {K : KS} {z : Nat} (h : Bo K.b K.l z) {m : Int} (hi : inK K m) : ∃ M : Nat, m = M ∧ M < K.b.ms.length := by
  obtain ⟨h1, h2⟩ := hi
  have := h.len
  exact ⟨m.toNat, by omega, by omega⟩
theorem ct_ms (B : BS) (n : Int) : (ctB B n).ms = B.ms := rfl
theorem put_ct_len (B : BS) (n m : Int) (S : MS) : (put (ctB B n) m S).ms.length = B.ms.length := put_len _ _ _
theorem dd_fa {B : BS} {m : Nat} (hm : m < B.ms.length) (i : Nat) : ddB (put B (m : Int) (fa (bm B (m : Int)))) i = if i = m then true else ddB B i := by
  unfold ddB
  rw [put_at hm]
  split <;> rfl
theorem dd_rp {B : BS} {m : Nat} (hm : m < B.ms.length) (i : Nat) : ddB (put B (m : Int) (rp (bm B (m : Int)))) i = if i = m then false else ddB B i := by
  unfold ddB
  rw [put_at hm]
  split <;> rfl

theorem fin_fail {K : KS} {z : Nat} (q : Bq K z) (tw : Two K.b) (he : K.l.ep + 2 ≤ 9007199254740992) (n m : Int) (ks : Nat → List Nat) : Fin K (bfK (ctK K n) m) (bfE (ctK K n) m) (fun i => (i : Int) = m) z (crB (bfK (ctK K n) m).b ks) := by
  have hnone := fun E => fin_none q tw.one he n ks E
  have hmono : ∀ E, Fin K (ctK K n) E (fun i => (i : Int) = m) z (crB (ctK K n).b ks) := fun E => ⟨(hnone E).e, (hnone E).ep, (hnone E).lp, fun i hi h => ((hnone E).r1 i hi h).elim, (hnone E).r2, (hnone E).n, (hnone E).ev⟩
  by_cases hin : inK (ctK K n) m
  · by_cases hk : knK (ctK K n) m = true
    · have e : bfK (ctK K n) m = ctK K n := by unfold bfK; rw [if_pos hin, if_pos hk]
      rw [e]; exact hmono _
    · obtain ⟨M, rfl, hM⟩ := in_nat q.bo (K := K) hin
      have eK : bfK (ctK K n) (M : Int) = puK (faK (ctK K n) M) (chL K.l M 1 0) := by unfold bfK; rw [if_pos hin, if_neg hk, Int.toNat_natCast]; rfl
      have eE : bfE (ctK K n) (M : Int) = puE' (faK (ctK K n) M) (chL K.l M 1 0) := by unfold bfE; rw [if_pos hin, if_neg hk, Int.toNat_natCast]; rfl
      rw [eK, eE]
      obtain ⟨i, i1, i2, i3⟩ := tw.other M
      have hB : Bh (faK (ctK K n) (M : Int)).b K.l z := ((q.bo.bh q.ft tw.one).cut n).fail M hM ⟨i, i1, i2, i3, q.bo.cur i i1 i3⟩
      have := fin_pub (K := K) (K1 := faK (ctK K n) (M : Int)) rfl (put_ct_len _ _ _ _) hB M hM 1 0 (by unfold mh; simp) he (fun j hj hd => by
        have hd2 : ddB (put (ctB K.b n) (M : Int) (fa (bm (ctB K.b n) (M : Int)))) j = true := hd
        rw [dd_fa (B := ctB K.b n) hM] at hd2
        by_cases e : j = M
        · exact .inl ⟨e, rfl, rfl⟩
        · rw [if_neg e] at hd2
          exact .inr ⟨e, q.dk j hj hd2⟩) ks
      exact ⟨this.e, this.ep, this.lp, fun i hi h => by rw [this.r1 i hi h], this.r2, this.n, this.ev⟩
  · have e : bfK (ctK K n) m = ctK K n := by unfold bfK; rw [if_neg hin]
    rw [e]; exact hmono _
theorem fin_rep {K : KS} {z : Nat} (q : Bq K z) (tw : Two K.b) (he : K.l.ep + 2 ≤ 9007199254740992) (n m : Int) (ks : Nat → List Nat) : Fin K (brK (ctK K n) m) (brE (ctK K n) m) (fun i => (i : Int) = m) z (crB (brK (ctK K n) m).b ks) := by
  have hnone := fun E => fin_none q tw.one he n ks E
  have hmono : ∀ E, Fin K (ctK K n) E (fun i => (i : Int) = m) z (crB (ctK K n).b ks) := fun E => ⟨(hnone E).e, (hnone E).ep, (hnone E).lp, fun i hi h => ((hnone E).r1 i hi h).elim, (hnone E).r2, (hnone E).n, (hnone E).ev⟩
  by_cases hin : inK (ctK K n) m
  · by_cases hs : (ctK K n).l.sts.getD m.toNat 0 = 1
    · obtain ⟨M, rfl, hM⟩ := in_nat q.bo (K := K) hin
      have eK : brK (ctK K n) (M : Int) = puK (rpK (ctK K n) M) (chL K.l M 2 0) := by unfold brK; rw [if_pos hin, if_pos hs, Int.toNat_natCast]; rfl
      have eE : brE (ctK K n) (M : Int) = puE' (rpK (ctK K n) M) (chL K.l M 2 0) := by unfold brE; rw [if_pos hin, if_pos hs, Int.toNat_natCast]; rfl
      rw [eK, eE]
      obtain ⟨i, i1, i2, i3⟩ := tw.other M
      have hB : Bh (rpK (ctK K n) (M : Int)).b K.l z := ((q.bo.bh q.ft tw.one).cut n).rep M hM ⟨i, i1, i2, i3, q.bo.cur i i1 i3⟩
      have hS : 1 ≤ K.l.s := ((gg_iff _ _).1 ((lg_iff _).1 q.bo.good).1).2.2.1
      have := fin_pub (K := K) (K1 := rpK (ctK K n) (M : Int)) rfl (put_ct_len _ _ _ _) hB M hM 2 0 (by unfold mh; simp; omega) he (fun j hj hd => by
        have hd2 : ddB (put (ctB K.b n) (M : Int) (rp (bm (ctB K.b n) (M : Int)))) j = true := hd
        rw [dd_rp (B := ctB K.b n) hM] at hd2
        by_cases e : j = M
        · rw [if_pos e] at hd2; cases hd2
        · rw [if_neg e] at hd2
          exact .inr ⟨e, q.dk j hj hd2⟩) ks
      exact ⟨this.e, this.ep, this.lp, fun i hi h => by rw [this.r1 i hi h], this.r2, this.n, this.ev⟩
    · have e : brK (ctK K n) m = ctK K n := by unfold brK; rw [if_pos hin, if_neg hs]
      rw [e]; exact hmono _
  · have e : brK (ctK K n) m = ctK K n := by unfold brK; rw [if_neg hin]
    rw [e]; exact hmono _
theorem fin_adv {K : KS} {z : Nat} (q : Bq K z) (tw : Two K.b) (he : K.l.ep + 2 ≤ 9007199254740992) (n m t : Int) (ks : Nat → List Nat) : Fin K (baK (ctK K n) m t) (baE (ctK K n) m t) (fun i => (i : Int) = m) z (crB (baK (ctK K n) m t).b ks) := by
  have hnone := fun E => fin_none q tw.one he n ks E
  have hmono : ∀ E, Fin K (ctK K n) E (fun i => (i : Int) = m) z (crB (ctK K n).b ks) := fun E => ⟨(hnone E).e, (hnone E).ep, (hnone E).lp, fun i hi h => ((hnone E).r1 i hi h).elim, (hnone E).r2, (hnone E).n, (hnone E).ev⟩
  by_cases hx : baX (ctK K n) m t = 0
  · have hin : inK (ctK K n) m := by
      by_cases h : inK (ctK K n) m
      · exact h
      · unfold baX at hx; rw [if_neg h] at hx; cases hx
    have hx2 := hx
    unfold baX at hx2
    rw [if_pos hin] at hx2
    have ht : (ctK K n).l.mks.getD m.toNat 0 ≤ t ∧ t ≤ (ctK K n).l.s := by
      by_cases h : (ctK K n).l.mks.getD m.toNat 0 ≤ t ∧ t ≤ (ctK K n).l.s
      · exact h
      · rw [if_neg h] at hx2; cases hx2
    rw [if_pos ht] at hx2
    have hs : (ctK K n).l.sts.getD m.toNat 0 = 2 := by
      by_cases h : (ctK K n).l.sts.getD m.toNat 0 = 2
      · exact h
      · rw [if_neg h] at hx2; cases hx2
    obtain ⟨M, rfl, hM⟩ := in_nat q.bo (K := K) hin
    rw [Int.toNat_natCast] at ht hs
    have eK : baK (ctK K n) (M : Int) t = puK (ctK K n) (baM (ctK K n) M t) := if_pos hx
    have eE : baE (ctK K n) (M : Int) t = puE' (ctK K n) (baM (ctK K n) M t) := if_pos hx
    rw [eK, eE]
    have hg := (lg_iff _).1 q.bo.good
    have hm0 : 0 ≤ K.l.mks.getD M 0 := by
      have h5 := (mg_iff _ _).1 hg.2.2.2.2.2 M (by have := q.bo.len; have := hg.2.2.2.1; omega)
      have hs' : K.l.sts.getD M 0 = 2 := hs
      unfold mh at h5
      rw [hs', if_neg (by decide), if_pos rfl] at h5
      exact (of_decide_eq_true h5).1
    have hB : Bh (ctK K n).b K.l z := (q.bo.bh q.ft tw.one).cut n
    have hdk : ∀ j, j < K.b.ms.length → ddB (ctK K n).b j = true → j ≠ M ∧ K.l.sts.getD j 0 = 1 ∧ K.l.mks.getD j 0 = 0 := fun j hj hd => by
      have h1 := q.dk j hj hd
      refine ⟨fun e => ?_, h1⟩
      have hs' : K.l.sts.getD M 0 = 2 := hs
      rw [← e, h1.1] at hs'
      cases hs'
    by_cases h : t = K.l.s
    · have eM : baM (ctK K n) (M : Int) t = chL K.l M 0 0 := by unfold baM; rw [if_pos (show t = (ctK K n).l.s from h), Int.toNat_natCast]; rfl
      rw [eM]
      have := fin_pub (K := K) (K1 := ctK K n) rfl rfl hB M hM 0 0 (by unfold mh; simp) he (fun j hj hd => .inr (hdk j hj hd)) ks
      exact ⟨this.e, this.ep, this.lp, fun i hi h => by rw [this.r1 i hi h], this.r2, this.n, this.ev⟩
    · have eM : baM (ctK K n) (M : Int) t = chL K.l M 2 t := by unfold baM; rw [if_neg (show ¬ t = (ctK K n).l.s from h), Int.toNat_natCast]; rfl
      rw [eM]
      have ht2 : K.l.mks.getD M 0 ≤ t ∧ t ≤ K.l.s := ht
      have := fin_pub (K := K) (K1 := ctK K n) rfl rfl hB M hM 2 t (by unfold mh; simp; omega) he (fun j hj hd => .inr (hdk j hj hd)) ks
      exact ⟨this.e, this.ep, this.lp, fun i hi h => by rw [this.r1 i hi h], this.r2, this.n, this.ev⟩
  · have e : baK (ctK K n) m t = ctK K n := if_neg hx
    rw [e]; exact hmono _

end Go.Proofs.YtinpkfdmellleaaGreat
