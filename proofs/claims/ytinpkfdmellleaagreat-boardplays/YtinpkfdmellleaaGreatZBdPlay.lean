/-
  One act of the laws' script, and same, with what stays of the pair. Conditions: that the pair lies in memory, and the act's lists.
-/
import Derived.Test.YtinpkfdmellleaaGreatZBdIv
namespace Go.Proofs.YtinpkfdmellleaaGreat
open Go.RowKit Plain
set_option linter.unusedVariables false

/-- what stays of a pair, k acts behind the beginning. -/
def Jv (K : KS) (o : Bool) (k N : Nat) : Prop := BI (2 + k) 110 N (2300 + 64 * k) K.b ∧ (o = true → KI (2 + k) 110 N (2300 + 64 * k) K)
theorem Jv.more {K : KS} {o : Bool} {k N : Nat} (h : Jv K o k N) : Jv K o (k + 1) N := ⟨h.1.more (by omega) (by omega), fun e => (h.2 e).more (by omega) (by omega)⟩
theorem Jv.ki {K : KS} {k N : Nat} (h : KI (2 + k + 1) 110 N (2300 + 64 * k + 64) K) : Jv K true (k + 1) N := ⟨h.b.more (by omega) (by omega), fun _ => h.more (by omega) (by omega)⟩
theorem Jv.op {B : BS} {k N : Nat} (hk : k ≤ 60) (hN : N ≤ 32) (h : BI (2 + k) 110 N (2300 + 64 * k) B) : Jv (opnK B) (decide (opnE B = 0)) (k + 1) N := by
  obtain ⟨h1, h2⟩ := op_iv hN (by omega) (by omega) h
  exact ⟨h1.more (by omega) (by omega), fun e => (h2 (of_decide_eq_true e)).more (by omega) (by omega)⟩
theorem Pr.mv {w0 w w2 : World} {v b r : Nat} {K : KS} {o : Bool} {B' : BS} (h : Pr w0 w v b r K o) (m : ∀ P R s1 s3, Pb w0 w v b r P R K.b K.b s1 s3 → Mv w0 w w2 b r P R B' B') : Pr w0 w2 v b r ⟨B', K.l⟩ o := by
  unfold Pr at h ⊢
  cases o with
  | true =>
    rw [if_pos rfl] at h ⊢
    obtain ⟨x, y, T, R, sv, mv, su, mu, p⟩ := h
    obtain ⟨T', R', p'⟩ := p.mv (m _ _ _ _ p.pb)
    exact ⟨x, y, T', R', sv, mv, su, mu, p'⟩
  | false =>
    rw [if_neg (by simp)] at h ⊢
    obtain ⟨P, R, p⟩ := h
    exact p.mv (m _ _ _ _ p)

theorem same_step {w0 w : World} {v b r : Nat} {K : KS} {o : Bool} {k N : Nat} (h : Pr w0 w v b r K o) (hK : Kp w0 w) (J : Jv K o k N) (hk : k ≤ 60) : Calls Tryz.prog 10 #[.pointer (some ⟨v, 0, none⟩)] w fun e w' => e = .returned (.bool true) ∧ Pr w0 w' v b r K o ∧ Kp w0 w' := by
  cases o with
  | true =>
    unfold Pr at h
    rw [if_pos rfl] at h
    obtain ⟨x, y, T, R, sv, mv, su, mu, p⟩ := h
    refine (same_p p hK ((J.2 rfl).kok (by omega) (by omega))).mono ?_
    rintro e w' ⟨he, ⟨T', p'⟩, k'⟩
    exact ⟨he, by unfold Pr; rw [if_pos rfl]; exact ⟨x, y, T', R, sv, mv, su, mu, p'⟩, k'⟩
  | false =>
    unfold Pr at h
    rw [if_neg (by simp)] at h
    obtain ⟨P, R, p⟩ := h
    refine (same_n p hK).mono ?_
    rintro e w' ⟨he, p', k'⟩
    exact ⟨he, by unfold Pr; rw [if_neg (by simp)]; exact ⟨P, R, p'⟩, k'⟩

theorem act_step {w0 w : World} {v b r : Nat} {K : KS} {o : Bool} {k N : Nat} (h : Pr w0 w v b r K o) (hK : Kp w0 w) (J : Jv K o k N) (hk : k ≤ 60) (hN : N ≤ 32) (d m n : Int) (hd : Bool) (va : Option Addr) (vn vc : Nat) (KK : List (Value × List Nat)) (hkl : KL w0 (.slice va vn vc) KK) (hn : (Lit.int .i64 n).wf = true) :
    Calls Tryz.prog 11 #[.pointer (some ⟨v, 0, none⟩), .agg #[.int .i64 d, .int .i64 m, .int .i64 n, .bool hd, .slice va vn vc]] w fun e w' => e = .returned (.bool true) ∧ (∃ K' o', Pr w0 w' v b r K' o' ∧ Jv K' o' (k + 1) N) ∧ Kp w0 w' := by
  have hJ := J.1
  obtain ⟨P, R, s1, s3, pb⟩ := h.pb
  by_cases h3 : d % 8 = 3
  · exact (act_open pb hK hJ.ev (by have := opnL_ep (by omega) hJ; omega) (by have := hJ.g; omega) d m n hd va vn vc h3).mono fun e w' ⟨he, hp, k'⟩ => ⟨he, ⟨_, _, hp, Jv.op hk hN hJ⟩, k'⟩
  by_cases h4 : d % 8 = 4
  · cases o with
    | true =>
      unfold Pr at h
      rw [if_pos rfl] at h
      obtain ⟨x, y, T, R', sv, mv, su, mu, p⟩ := h
      refine (act_cut p.pb hK d m n hd va vn vc h4 hn).mono ?_
      rintro e w' ⟨he, mvv⟩
      obtain ⟨T2, R2, p'⟩ := p.mv mvv
      refine ⟨he, ⟨⟨ctB K.b n, K.l⟩, true, by unfold Pr; rw [if_pos rfl]; exact ⟨x, y, T2, R2, sv, mv, su, mu, p'⟩, ?_⟩, mvv.below p.pb hK⟩
      have h5 := J.2 rfl
      exact Jv.more ⟨hJ.ct n, fun _ => ⟨h5.b.ct n, h5.good, h5.n, h5.e⟩⟩
    | false =>
      unfold Pr at h
      rw [if_neg (by simp)] at h
      obtain ⟨P', R', p⟩ := h
      refine (act_cut p hK d m n hd va vn vc h4 hn).mono ?_
      rintro e w' ⟨he, mvv⟩
      obtain ⟨T2, R2, p'⟩ := p.mv mvv
      exact ⟨he, ⟨⟨ctB K.b n, K.l⟩, false, by unfold Pr; rw [if_neg (by simp)]; exact ⟨T2, R2, p'⟩, Jv.more ⟨hJ.ct n, fun e => by cases e⟩⟩, mvv.below p hK⟩
  by_cases h5 : d % 8 = 5
  · have hc := hJ.crash (ksF KK)
    exact (act_crash pb hK d m n hd va vn vc KK hkl hc.ev (by have := opnL_ep (by omega) hc; omega) (by have := hJ.g; omega) h5).mono fun e w' ⟨he, hp, k'⟩ => ⟨he, ⟨_, _, hp, Jv.op hk hN hc⟩, k'⟩
  by_cases h6 : d % 8 = 6
  · by_cases hno : hd = false ∨ fdE K.b m ≠ 0
    · exact (act_end0 pb d m n hd va vn vc h6 hno).mono fun e w' ⟨he, k'⟩ => ⟨he, ⟨K, o, h.kp k', J.more⟩, hK.trans k'⟩
    · have hh : hd = true := by cases hd with
        | true => rfl
        | false => exact absurd (.inl rfl) hno
      have hf : fdE K.b m = 0 := by by_cases e : fdE K.b m = 0
                                    · exact e
                                    · exact absurd (.inr e) hno
      subst hh
      obtain ⟨j, rfl⟩ : ∃ j : Nat, m = (j : Int) := ⟨m.toNat, by have := (bm_mem hf).1; omega⟩
      have hb := hJ.put (j : Int) (hJ.bm hf).fa
      cases o with
      | true =>
        unfold Pr at h
        rw [if_pos rfl] at h
        obtain ⟨x, y, T, R', sv, mv, su, mu, p⟩ := h
        refine (act_end1 p.pb hK d n j va vn vc h6 hf).mono ?_
        rintro e w' ⟨he, mvv⟩
        obtain ⟨T2, R2, p'⟩ := p.mv mvv
        refine ⟨he, ⟨⟨put K.b (j : Int) (fa (bm K.b (j : Int))), K.l⟩, true, by unfold Pr; rw [if_pos rfl]; exact ⟨x, y, T2, R2, sv, mv, su, mu, p'⟩, ?_⟩, mvv.below p.pb hK⟩
        have h5 := J.2 rfl
        exact Jv.more ⟨hb, fun _ => ⟨hb, h5.good, h5.n, h5.e⟩⟩
      | false =>
        unfold Pr at h
        rw [if_neg (by simp)] at h
        obtain ⟨P', R', p⟩ := h
        refine (act_end1 p hK d n j va vn vc h6 hf).mono ?_
        rintro e w' ⟨he, mvv⟩
        obtain ⟨T2, R2, p'⟩ := p.mv mvv
        exact ⟨he, ⟨⟨put K.b (j : Int) (fa (bm K.b (j : Int))), K.l⟩, false, by unfold Pr; rw [if_neg (by simp)]; exact ⟨T2, R2, p'⟩, Jv.more ⟨hb, fun e => by cases e⟩⟩, mvv.below p hK⟩
  have h7 : d % 8 < 3 ∨ d % 8 = 7 := by omega
  cases o with
  | true =>
    unfold Pr at h
    rw [if_pos rfl] at h
    obtain ⟨x, y, T, R', sv, mv, su, mu, p⟩ := h
    have h5 := J.2 rfl
    refine (act_any p hK (h5.kok (by omega) (by omega)) d m n hd va vn vc h7).mono ?_
    rintro e w' ⟨he, ⟨T2, R2, sv2, mv2, su2, mu2, p'⟩, k'⟩
    exact ⟨he, ⟨_, true, by unfold Pr; rw [if_pos rfl]; exact ⟨x, y, T2, R2, sv2, mv2, su2, mu2, p'⟩, Jv.ki (ac_iv hN (by omega) h5 d m n)⟩, k'⟩
  | false =>
    have h0 := h
    unfold Pr at h
    rw [if_neg (by simp)] at h
    obtain ⟨P', R', p⟩ := h
    exact (act_nil p hK d m n hd va vn vc h7).mono fun e w' ⟨he, k'⟩ => ⟨he, ⟨K, false, h0.kp k', J.more⟩, hK.trans k'⟩

/-! ### how a play begins -/
theorem ws_iv {E : Int} {z n : Nat} (i : Int) : ∀ (l : List Int) (B : BS), (∃ g, BI E z n g B) → ∃ g, BI E z n g (wsB i l B)
  | [], B, h => h
  | a :: l, B, ⟨g, h⟩ => ws_iv i l _ ⟨_, h.op i (f := fun S => wr S a z64) (fun S hS => hS.wr a (te_no gt_z64))⟩
theorem fmB_iv {E : Int} {z n : Nat} (s : Nat) {p : ByteArray} (hp : Te E p) : ∀ (l : List Nat) (B : BS), (∃ g, BI E z n g B) → ∃ g, BI E z n g (l.foldl (bgB s p) B)
  | [], B, h => h
  | i :: l, B, h => by
    obtain ⟨g, h1⟩ := ws_iv (i : Int) (fmL s) B h
    exact fmB_iv s hp l _ ⟨_, (h1.op (i : Int) (f := fun S => wr S 1 p) (fun S hS => hS.wr 1 hp)).op (i : Int) (f := fl) (fun S hS => hS.fl)⟩
theorem bg_jv (x0 x1 : Int) : Jv (bgK x0 x1) true 0 (bgN x0) := by
  have A := bg_all x0 x1
  have h4 := A.n4
  have h7 := A.n7
  obtain ⟨q1, q2, q3, q4, q5⟩ := nw_bay (bgN x0) 110 (by omega) (by omega) (by omega) (by omega)
  have h0 : BI 1 110 (bgN x0) 0 (nwB (bgN x0 : Nat) (110 : Nat)) := by
    refine ⟨q3, fun S hS => ?_, by omega⟩
    have hS' : S ∈ List.replicate (min (max ((bgN x0 : Nat) : Int) 1) 32).toNat (nw (nwN ((110 : Nat) : Int))) := hS
    rw [List.eq_of_mem_replicate hS']
    have e : nwN ((110 : Nat) : Int) = 110 := by decide
    rw [e]
    have key : ∀ t ∈ List.replicate 110 z64, Te 1 t := fun t ht => by rw [List.eq_of_mem_replicate ht]; exact te_no gt_z64
    exact ⟨by show (List.replicate 110 z64).length = 110; simp, by show (List.replicate 110 z64).length = 110; simp, key, key, fun p hp => by cases hp⟩
  have h1 : ∃ g, BI 1 110 (bgN x0) g (bgB1 x0 x1) := by
    unfold bgB1 fmS
    split
    · exact fmB_iv _ (te_pu (by show (1 : Int) ≤ 1; omega)) _ _ ⟨0, h0⟩
    · exact ⟨0, h0⟩
  obtain ⟨g, h2⟩ := h1
  have h3 := (op_iv (by omega) (by omega) (by omega) h2).2 A.o
  have hk : KI 2 110 (bgN x0) 2300 (bgK x0 x1) := ⟨⟨h3.b.len, h3.b.mi, A.g⟩, h3.good, h3.n, h3.e⟩
  exact ⟨hk.b.more (by omega) (by omega), fun _ => hk.more (by omega) (by omega)⟩

end Go.Proofs.YtinpkfdmellleaaGreat
