/-
  What stays of a bay and a board, whatever fails: sizes, and that no sector holds a label whose Epoch is past a bound. No condition.
-/
import Derived.Test.YtinpkfdmellleaaGreatZBdAct4
import Derived.Test.YtinpkfdmellleaaGreatZBdFs
namespace Go.Proofs.YtinpkfdmellleaaGreat
open Go.RowKit Plain
set_option linter.unusedVariables false

/-- a label in it has no Epoch past E. -/
def Te (E : Int) (t : ByteArray) : Prop := gtE t = 0 → (gtL t).ep ≤ E
theorem Te.more {E E' : Int} {t : ByteArray} (h : Te E t) (he : E ≤ E') : Te E' t := fun hh => Int.le_trans (h hh) he
theorem te_no {E : Int} {t : ByteArray} (h : gtE t ≠ 0) : Te E t := fun hh => absurd hh h
theorem te_pu {E : Int} {L : LB} (h : L.ep ≤ E) : Te E (puS L) := by
  unfold puS
  split
  · rename_i hg
    intro _
    rw [(gt_pt hg).2]; exact h
  · exact te_no gt_noS
/-- a member. -/
structure MI (E : Int) (z : Nat) (S : MS) : Prop where
  ll : S.las.length = z
  ln : S.now.length = z
  tn : ∀ t ∈ S.now, Te E t
  tl : ∀ t ∈ S.las, Te E t
  tr : ∀ p ∈ S.row, Te E p.2
theorem MI.more {E E' : Int} {z : Nat} {S : MS} (h : MI E z S) (he : E ≤ E') : MI E' z S := ⟨h.ll, h.ln, fun t ht => (h.tn t ht).more he, fun t ht => (h.tl t ht).more he, fun t ht => (h.tr t ht).more he⟩
theorem pl_te {E : Int} : ∀ (r : List (Nat × ByteArray)) (l : List ByteArray), (∀ t ∈ l, Te E t) → (∀ p ∈ r, Te E p.2) → ∀ t ∈ pl l r, Te E t
  | [], l, h, _ => h
  | p :: r, l, h, hr => pl_te r (l.set p.1 p.2) (fun t ht => (List.mem_or_eq_of_mem_set ht).elim (h t) (fun e => by rw [e]; exact hr p List.mem_cons_self)) (fun q hq => hr q (List.mem_cons_of_mem _ hq))
theorem tk_sub (f : Nat → (Nat × ByteArray) → Bool) : ∀ (r : List (Nat × ByteArray)) (k : Nat), ∀ p ∈ tk f k r, p ∈ r
  | [], _, p, h => h
  | q :: r, k, p, h => by
    unfold tk at h
    split at h
    · rcases List.mem_cons.1 h with e | e
      · rw [e]; exact List.mem_cons_self
      · exact List.mem_cons_of_mem _ (tk_sub f r _ p e)
    · exact List.mem_cons_of_mem _ (tk_sub f r _ p h)
theorem MI.wr {E : Int} {z : Nat} {S : MS} (h : MI E z S) (a : Int) {t : ByteArray} (ht : Te E t) : MI E z (wr S a t) := by
  unfold Go.Proofs.YtinpkfdmellleaaGreat.wr
  split
  · refine ⟨h.ll, by simpa using h.ln, fun u hu => (List.mem_or_eq_of_mem_set hu).elim (h.tn u) (fun e => by rw [e]; exact ht), h.tl, fun p hp => ?_⟩
    rcases List.mem_append.1 hp with e | e
    · exact h.tr p e
    · rw [List.mem_singleton.1 e]; exact ht
  · exact h
theorem MI.fl {E : Int} {z : Nat} {S : MS} (h : MI E z S) : MI E z (fl S) := by
  unfold Go.Proofs.YtinpkfdmellleaaGreat.fl
  split
  · exact h
  · exact ⟨by show (pl _ _).length = z; rw [pl_len]; exact h.ll, h.ln, h.tn, pl_te _ _ h.tl h.tr, fun p hp => by cases hp⟩
theorem MI.cr {E : Int} {z : Nat} {S : MS} (h : MI E z S) (f : Nat → Bool) : MI E z (cr S f) := by
  have key := pl_te (E := E) (tk (fun k _ => f k) 0 S.row) S.las h.tl (fun p hp => h.tr p (tk_sub _ _ _ p hp))
  have kl : (pl S.las (tk (fun k _ => f k) 0 S.row)).length = z := by rw [pl_len]; exact h.ll
  exact ⟨kl, kl, key, key, fun p hp => by cases hp⟩
theorem MI.fa {E : Int} {z : Nat} {S : MS} (h : MI E z S) : MI E z (fa S) := ⟨h.ll, h.ln, h.tn, h.tl, fun p hp => by cases hp⟩
theorem MI.rp {E : Int} {z : Nat} {S : MS} (h : MI E z S) : MI E z (rp S) := by
  have key : ∀ t ∈ List.replicate S.las.length z64, Te E t := fun t ht => by rw [List.eq_of_mem_replicate ht]; exact te_no gt_z64
  have kl : (List.replicate S.las.length z64).length = z := by simpa using h.ll
  exact ⟨kl, kl, key, key, fun p hp => by cases hp⟩
theorem MI.rd {E : Int} {z : Nat} {S : MS} (h : MI E z S) (k : Int) : MI E z (rd S k) := by
  unfold Go.Proofs.YtinpkfdmellleaaGreat.rd
  split
  · exact ⟨h.ll, h.ln, h.tn, h.tl, h.tr⟩
  · exact h
/-- a bay. -/
structure BI (E : Int) (z n : Nat) (g : Nat) (B : BS) : Prop where
  len : B.ms.length = n
  mi : ∀ S ∈ B.ms, MI E z S
  g : B.g ≤ g
theorem BI.more {E E' : Int} {z n g g' : Nat} {B : BS} (h : BI E z n g B) (he : E ≤ E') (hg : g ≤ g') : BI E' z n g' B := ⟨h.len, fun S hS => (h.mi S hS).more he, Nat.le_trans h.g hg⟩
theorem BI.ev {E : Int} {z n g : Nat} {B : BS} (h : BI E z n g B) : Ev B z := fun i hi => by
  have hm : B.ms.getD i noM ∈ B.ms := by rw [List.getD_eq_getElem?_getD, List.getElem?_eq_getElem hi]; exact List.getElem_mem hi
  exact ⟨(h.mi _ hm).ll, (h.mi _ hm).ln⟩
theorem BI.put {E : Int} {z n g : Nat} {B : BS} (h : BI E z n g B) (i : Int) {S : MS} (hS : MI E z S) : BI E z n g (put B i S) :=
  ⟨by show (B.ms.set _ _).length = n; rw [List.length_set]; exact h.len, fun T hT => (List.mem_or_eq_of_mem_set hT).elim (h.mi T) (fun e => by rw [e]; exact hS), h.g⟩
theorem BI.bm {E : Int} {z n g : Nat} {B : BS} (h : BI E z n g B) {i : Int} (hi : fdE B i = 0) : MI E z (bm B i) := h.mi _ (bm_mem hi).2.2.2
theorem BI.st {E : Int} {z n g : Nat} {B : BS} (h : BI E z n g B) (i : Int) : BI E z n (g + 1) (stS B i) := by
  have hg := h.g
  unfold stS
  split
  · exact ⟨h.len, h.mi, by show B.g + 1 ≤ g + 1; omega⟩
  · exact ⟨h.len, h.mi, by show B.g + 1 ≤ g + 1; omega⟩
theorem BI.op {E : Int} {z n g : Nat} {B : BS} (h : BI E z n g B) (i : Int) {f : MS → MS} (hf : ∀ S, MI E z S → MI E z (f S)) : BI E z n (g + 1) (opS B i f) := by
  unfold opS
  split
  · rename_i hs
    exact (h.st i).put i (hf _ (h.bm (stE_ok hs).1))
  · exact h.st i
theorem BI.rdb {E : Int} {z n g : Nat} {B : BS} (h : BI E z n g B) (i k : Int) : BI E z n g (rdB B i k) := by
  unfold rdB
  split
  · rename_i hs
    exact h.put i ((h.bm (stE_ok hs).1).rd k)
  · exact h
theorem BI.rdt {E : Int} {z n g : Nat} {B : BS} (h : BI E z n g B) (i k : Int) : Te E (rdT B i k) := by
  unfold rdT
  split
  · rename_i hs
    unfold rdS
    split
    · have hm := h.bm (stE_ok hs).1
      by_cases hk : k.toNat < (Go.Proofs.YtinpkfdmellleaaGreat.bm B i).now.length
      · rw [List.getD_eq_getElem?_getD, List.getElem?_eq_getElem hk]; exact hm.tn _ (List.getElem_mem hk)
      · rw [show (Go.Proofs.YtinpkfdmellleaaGreat.bm B i).now.getD k.toNat noS = noS by simp [List.getD_eq_getElem?_getD, hk]]; exact te_no gt_noS
    · exact te_no gt_empty
  · exact te_no gt_empty
theorem BI.ct {E : Int} {z n g : Nat} {B : BS} (h : BI E z n g B) (k : Int) : BI E z n g (ctB B k) := ⟨h.len, h.mi, h.g⟩
theorem crM_mi {E : Int} {z : Nat} (ks : Nat → List Nat) : ∀ (L : List MS) (i k : Nat), (∀ S ∈ L, MI E z S) → ∀ S ∈ crM ks i k L, MI E z S
  | [], _, _, _, S, hS => by cases hS
  | T :: L, i, k, h, S, hS => by
    simp only [crM] at hS
    rcases List.mem_cons.1 hS with e | e
    · rw [e]
      split
      · exact (h T List.mem_cons_self).cr _
      · exact h T List.mem_cons_self
    · exact crM_mi ks L (i + 1) k (fun S hS => h S (List.mem_cons_of_mem _ hS)) S e
theorem BI.crash {E : Int} {z n g : Nat} {B : BS} (h : BI E z n g B) (ks : Nat → List Nat) : BI E z n g (crB B ks) :=
  ⟨by show (crM _ _ _ _).length = n; rw [crM_len]; exact h.len, crM_mi ks _ _ _ h.mi, h.g⟩

/-! ### reading and publishing -/
def RIv (E : Int) (z n g : Nat) (r : RS) : Prop := BI E z n g r.1 ∧ ∀ t ∈ r.2.1, Te E t
theorem r1_iv {E : Int} {z n g : Nat} {r : RS} (h : RIv E z n g r) (i : Nat) (a : Int) : RIv E z n g (r1 i a r) := by
  unfold r1
  split
  · exact h
  · refine ⟨h.1.rdb i a, fun t ht => ?_⟩
    have ht' : t ∈ (if rdE r.1 i a = 0 then r.2.1 ++ [rdT r.1 i a] else r.2.1) := ht
    split at ht'
    · rcases List.mem_append.1 ht' with h1 | h1
      · exact h.2 t h1
      · rw [List.mem_singleton.1 h1]; exact h.1.rdt _ _
    · exact h.2 t ht'
theorem rdF_iv {E : Int} {z n g : Nat} {B : BS} (h : BI E z n g B) (l : List Nat) : RIv E z n g (rdF l B) := by
  unfold rdF
  have key : ∀ (l : List Nat) (r : RS), RIv E z n g r → RIv E z n g (l.foldl r2 r) := by
    intro l
    induction l with
    | nil => exact fun r h => h
    | cons i l ih => exact fun r h => ih _ (r1_iv (r1_iv h i 0) i 1)
  exact key l _ ⟨h, fun t ht => by cases ht⟩
theorem nw_ep {E : Int} (h0 : 0 ≤ E) {l : List ByteArray} (h : ∀ t ∈ l, Te E t) : ∀ k, (nwL l k).ep ≤ E
  | 0 => by show (0 : Int) ≤ E; exact h0
  | k + 1 => by
    by_cases hc : gtE (l.getD k noS) = 0 ∧ (nwL l k).ep < (gtL (l.getD k noS)).ep
    · rw [(nw_yes hc).1]
      by_cases hk : k < l.length
      · have hm : l.getD k noS ∈ l := by rw [List.getD_eq_getElem?_getD, List.getElem?_eq_getElem hk]; exact List.getElem_mem hk
        exact h _ hm hc.1
      · have : l.getD k noS = noS := by simp [List.getD_eq_getElem?_getD, hk]
        rw [this] at hc
        exact absurd hc.1 gt_noS
    · rw [(nw_no hc).1]; exact nw_ep h0 h k
theorem opnL_ep {E : Int} (h0 : 0 ≤ E) {z n g : Nat} {B : BS} (h : BI E z n g B) : (opnL B).ep ≤ E := nw_ep h0 (rdF_iv h _).2 _
theorem p1_iv {E : Int} {z n g : Nat} {r : BS × Bool} (h : BI E z n g r.1) (a : Int) {s : ByteArray} (hs : Te E s) (i : Nat) : BI E z n (g + 2) (p1 a s r i).1 := by
  have h1 := h.op (i : Int) (f := fun S => wr S a s) (fun S hS => hS.wr a hs)
  unfold p1
  split
  · exact h.more (Int.le_refl _) (by omega)
  · split
    · exact h1.more (Int.le_refl _) (by omega)
    · exact h1.op (i : Int) (f := fl) (fun S hS => hS.fl)
theorem pb_iv {E : Int} {z n : Nat} (a : Int) {s : ByteArray} (hs : Te E s) : ∀ (l : List Nat) (g : Nat) (r : BS × Bool), BI E z n g r.1 → BI E z n (g + 2 * l.length) (l.foldl (p1 a s) r).1
  | [], g, r, h => h
  | i :: l, g, r, h => by
    have := pb_iv a hs l (g + 2) (p1 a s r i) (p1_iv h a hs i)
    rw [List.length_cons, show g + 2 * (l.length + 1) = g + 2 + 2 * l.length by omega]
    exact this
/-- a board. -/
structure KI (E : Int) (z n : Nat) (g : Nat) (K : KS) : Prop where
  b : BI E z n g K.b
  good : lg K.l = true
  n : K.l.n = n
  e : K.l.ep ≤ E
theorem KI.more {E E' : Int} {z n g g' : Nat} {K : KS} (h : KI E z n g K) (he : E ≤ E') (hg : g ≤ g') : KI E' z n g' K := ⟨h.b.more he hg, h.good, h.n, Int.le_trans h.e he⟩
theorem pub_iv {E : Int} {z n g : Nat} {K : KS} {M : LB} (hn : n ≤ 32) (h : KI E z n g K) (hM : lg (nx K M) = true) (hMn : M.n = n) : KI (E + 1) z n (g + 64) (puK K M) := by
  have he := h.e
  have h1 : BI (E + 1) z n (g + 2 * (lvL 0 K.b.ms).length) (pbR K M).1 := pb_iv _ (te_pu (by show K.l.ep + 1 ≤ E + 1; omega)) _ g _ (h.b.more (by omega) (Nat.le_refl _))
  have h2 := lvL_len K.b.ms 0
  have h3 := h.b.len
  have h4 := h1.more (Int.le_refl _) (show g + 2 * (lvL 0 K.b.ms).length ≤ g + 64 by omega)
  unfold puK
  split
  · exact ⟨h4, h.good, h.n, by show K.l.ep ≤ E + 1; omega⟩
  · exact ⟨h4, hM, hMn, by show K.l.ep + 1 ≤ E + 1; omega⟩
theorem KI.kok {E : Int} {z n g : Nat} {K : KS} (h : KI E z n g K) (hE : E < 9007199254740992) (hg : g + 100 < 1000000) : Kok K := by
  obtain ⟨g1, g2, g3, g4, g5, g6⟩ := (lg_iff _).1 h.good
  have h1 := h.b.len
  have h2 := h.n
  have h3 := h.e
  have h4 := h.b.g
  exact ⟨by omega, by omega, by omega, by omega, by omega, by omega⟩
theorem fa_iv {E : Int} {z n g : Nat} {K : KS} (hn : n ≤ 32) (hE : E + 1 ≤ 9007199254740992) (h : KI E z n g K) (m : Int) : KI (E + 1) z n (g + 64) (bfK K m) := by
  unfold bfK
  obtain ⟨g1, g2, g3, g4, g5, g6⟩ := (lg_iff _).1 h.good
  split
  · rename_i hin
    split
    · exact h.more (by omega) (by omega)
    · have hf : fdE K.b m = 0 := fd_in hin.1 (by have := hin.2; have := h.n; have := h.b.len; omega)
      refine pub_iv hn (K := faK K m) ⟨h.b.put m (h.b.bm hf).fa, h.good, h.n, h.e⟩ ?_ h.n
      exact ch_good (K := faK K m) h.good (by show 0 ≤ K.l.ep; omega) (by show K.l.ep + 1 ≤ _; have := h.e; omega) _ 1 0 (mh_of (by omega) (by omega) (by omega) (by have := ((gg_iff _ _).1 g1).2.2.1; omega) (fun h => by omega))
  · exact h.more (by omega) (by omega)
theorem re_iv {E : Int} {z n g : Nat} {K : KS} (hn : n ≤ 32) (hE : E + 1 ≤ 9007199254740992) (h : KI E z n g K) (m : Int) : KI (E + 1) z n (g + 64) (brK K m) := by
  unfold brK
  obtain ⟨g1, g2, g3, g4, g5, g6⟩ := (lg_iff _).1 h.good
  split
  · rename_i hin
    split
    · have hf : fdE K.b m = 0 := fd_in hin.1 (by have := hin.2; have := h.n; have := h.b.len; omega)
      refine pub_iv hn (K := rpK K m) ⟨h.b.put m (h.b.bm hf).rp, h.good, h.n, h.e⟩ ?_ h.n
      exact ch_good (K := rpK K m) h.good (by show 0 ≤ K.l.ep; omega) (by show K.l.ep + 1 ≤ _; have := h.e; omega) _ 2 0 (mh_of (by omega) (by omega) (by omega) (by have := ((gg_iff _ _).1 g1).2.2.1; omega) (fun h => rfl))
    · exact h.more (by omega) (by omega)
  · exact h.more (by omega) (by omega)
theorem ad_iv {E : Int} {z n g : Nat} {K : KS} (hn : n ≤ 32) (hE : E + 1 ≤ 9007199254740992) (h : KI E z n g K) (m t : Int) : KI (E + 1) z n (g + 64) (baK K m t) := by
  unfold baK
  split
  · rename_i hx
    obtain ⟨g1, g2, g3, g4, g5, g6⟩ := (lg_iff _).1 h.good
    have hsp := ((gg_iff _ _).1 g1).2.2.1
    have he := h.e
    have hx2 : inK K m ∧ K.l.mks.getD m.toNat 0 ≤ t ∧ t ≤ K.l.s := by
      unfold baX at hx
      split at hx
      · rename_i h1
        split at hx
        · rename_i h2
          exact ⟨h1, h2⟩
        · omega
      · omega
    have hmB : m.toNat < K.l.sts.length := by have := hx2.1.2; have := hx2.1.1; omega
    have hmk := (mh_bd ((mg_iff K.l _).1 g6 m.toNat hmB) hsp).2.2.1
    have hgood : lg (nx K (baM K m t)) = true := by
      unfold baM
      split
      · exact ch_good h.good (by omega) (by omega) _ 0 0 (mh_of (by omega) (by omega) (by omega) (by omega) (fun h => by omega))
      · exact ch_good h.good (by omega) (by omega) _ 2 t (mh_of (by omega) (by omega) (by omega) (by omega) (fun h => rfl))
    exact pub_iv hn h hgood (by have : (baM K m t).n = K.l.n := by unfold baM; split <;> rfl
                                rw [this]; exact h.n)
  · exact h.more (by omega) (by omega)
theorem ac_iv {E : Int} {z n g : Nat} {K : KS} (hn : n ≤ 32) (hE : E + 1 ≤ 9007199254740992) (h : KI E z n g K) (d m t : Int) : KI (E + 1) z n (g + 64) (acK K d m t) := by
  unfold acK
  split
  · exact fa_iv hn hE h m
  · split
    · exact re_iv hn hE h m
    · exact ad_iv hn hE h m t
theorem op_iv {E : Int} {z n g : Nat} {B : BS} (hn : n ≤ 32) (h0 : 0 ≤ E) (hE : E + 1 ≤ 9007199254740992) (h : BI E z n g B) : BI (E + 1) z n (g + 64) (opnK B).b ∧ (opnE B = 0 → KI (E + 1) z n (g + 64) (opnK B)) := by
  have hr := rdF_iv h (lvL 0 B.ms)
  have hl := opnL_ep h0 h
  have hQ : BI E z n g (opnQ B).b := by
    unfold opnQ
    split
    · exact h
    · exact hr.1
  by_cases hX : opnX B = 0
  · have hne : (lvL 0 B.ms).length ≠ 0 := fun hh => by unfold opnX at hX; rw [if_pos hh] at hX; omega
    have hQe : opnQ B = ⟨(rdF (lvL 0 B.ms) B).1, opnL B⟩ := by unfold opnQ; rw [if_neg hne]
    have hfit : nwF (rdF (lvL 0 B.ms) B).2.1 (rdF (lvL 0 B.ms) B).2.1.length = true ∧ ftB (rdF (lvL 0 B.ms) B).1 (opnL B).n (opnL B).s = true := by
      unfold opnX at hX
      rw [if_neg hne] at hX
      split at hX
      · omega
      · split at hX
        · omega
        · split at hX
          · omega
          · rename_i h1 h2
            exact ⟨by simpa using h1, by simpa using h2⟩
    have hgood : lg (opnL B) = true := nw_good _ hfit.1
    have hnn : (opnL B).n = n := by
      have h1 := hfit.2
      unfold ftB at h1
      have h2 := (of_decide_eq_true h1).1
      have h3 := hr.1.len
      omega
    have hK : KI E z n g (opnQ B) := by rw [hQe]; exact ⟨hr.1, hgood, hnn, hl⟩
    obtain ⟨g1, g2, g3, g4, g5, g6⟩ := (lg_iff _).1 hgood
    have hp := pub_iv hn hK (M := wdL (opnQ B).b (opnQ B).l) (wd_good hK.good (by rw [hQe]; show 0 ≤ (opnL B).ep; omega) (by rw [hQe]; show (opnL B).ep + 1 ≤ _; omega)) hK.n
    have e : opnK B = puK (opnQ B) (wdL (opnQ B).b (opnQ B).l) := by unfold opnK; rw [if_pos hX]
    rw [e]
    exact ⟨hp.b, fun _ => hp⟩
  · have e : opnK B = opnQ B := by unfold opnK; rw [if_neg hX]
    rw [e]
    refine ⟨hQ.more (by omega) (by omega), fun hh => ?_⟩
    unfold opnE at hh
    rw [if_neg hX] at hh
    exact absurd hh hX

end Go.Proofs.YtinpkfdmellleaaGreat
