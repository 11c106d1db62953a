/-
  A board whose label stands on all live members; what the document fixes. No condition.
-/
import Derived.Test.YtinpkfdmellleaaGreatZBd
namespace Go.Proofs.YtinpkfdmellleaaGreat
open Go.RowKit Plain
set_option linter.unusedVariables false

def sec_ (B : BS) (i j : Nat) : ByteArray := (B.ms.getD i noM).now.getD j noS
/-- the label stands on all live members; what else stands there is older. -/
structure Bo (B : BS) (L : LB) (z : Nat) : Prop where
  pw : B.pw = none
  len : (B.ms.length : Int) = L.n
  ev : Ev B z
  zs : 100 + L.s ≤ (z : Int)
  good : lg L = true
  cur : ∀ i, i < B.ms.length → ddB B i = false → sec_ B i (L.ep % 2).toNat = ptS L
  old : ∀ i, i < B.ms.length → ddB B i = false → gtE (sec_ B i ((L.ep + 1) % 2).toNat) = 0 → (gtL (sec_ B i ((L.ep + 1) % 2).toNat)).ep < L.ep
theorem gt_z64 : gtE z64 ≠ 0 := by
  rw [gtE_form (fun h => by have := h.2; revert this; decide +kernel)]
  omega

/-! ### publishing -/
structure PbI (a : Nat) (s : ByteArray) (B : BS) (z : Nat) (P : Nat → Prop) (C : BS) : Prop where
  pw : C.pw = none
  len : C.ms.length = B.ms.length
  ev : Ev C z
  dd : ∀ i, ddB C i = ddB B i
  at_ : ∀ i, i < B.ms.length → P i → sec_ C i a = s
  ot : ∀ i j, i < B.ms.length → j ≠ a → sec_ C i j = sec_ B i j
theorem p1_ok {a : Nat} {s : ByteArray} {B C : BS} {z : Nat} {P : Nat → Prop} (h : PbI a s B z P C) (hs : s.size = 64) (ha : a < z) (i : Nat) (hi : i < B.ms.length) (hd : ddB B i = false) : ∃ C', p1 a s (C, false) i = (C', false) ∧ PbI a s B z (fun j => P j ∨ j = i) C' := by
  have hiC : i < C.ms.length := by rw [h.len]; exact hi
  have hf : fdE C (i : Int) = 0 := if_pos ⟨by omega, by omega⟩
  have hb : bm C (i : Int) = C.ms.getD i noM := by unfold bm; rw [Int.toNat_natCast]
  have hmo : MO (bm C (i : Int)) z := by
    rw [hb]
    exact ⟨(h.dd i).trans hd, h.ev i hiC⟩
  have w1 := wr_S hmo (a := (a : Int)) (by omega) (by omega) hs
  have e1 : opE C (i : Int) (fun S => wrE S a s) = 0 := by rw [op_E h.pw hf]; exact w1.1
  have e2 : opS C (i : Int) (fun S => wr S a s) = ⟨none, C.md + 1, C.g + 1, C.ms.set i (wr (bm C i) a s)⟩ := by
    rw [op_S h.pw hf, Int.toNat_natCast]
  have hf2 : fdE ⟨none, C.md + 1, C.g + 1, C.ms.set i (wr (bm C i) a s)⟩ (i : Int) = 0 := if_pos ⟨by omega, by show _ < (((C.ms.set _ _).length : Nat) : Int); rw [List.length_set]; omega⟩
  have hb2 : bm ⟨none, C.md + 1, C.g + 1, C.ms.set i (wr (bm C i) a s)⟩ (i : Int) = wr (bm C i) a s := by
    unfold bm
    rw [Int.toNat_natCast]
    exact getD_set_eq hiC _ _
  have e3 : opE (opS C (i : Int) (fun S => wr S a s)) (i : Int) flE = 0 := by rw [e2, op_E rfl hf2, hb2]; exact fl_E (hmo.wr _ _)
  have e4 : opS (opS C (i : Int) (fun S => wr S a s)) (i : Int) fl = ⟨none, C.md + 1 + 1, C.g + 1 + 1, C.ms.set i (fl (wr (bm C i) a s))⟩ := by
    rw [e2, op_S rfl hf2, hb2, Int.toNat_natCast]
    simp only [List.set_set]
  refine ⟨_, by rw [p1_f rfl (by rw [e1]; omega), e3, e4]; rfl, ?_⟩
  have key : ∀ j, (C.ms.set i (fl (wr (bm C i) a s))).getD j noM = if j = i then fl (wr (bm C i) a s) else C.ms.getD j noM := fun j => by
    by_cases e : j = i
    · subst e; rw [if_pos rfl]; exact getD_set_eq hiC _ _
    · rw [if_neg e]; exact getD_set_ne (fun h => e h.symm) _ _
  have hmF : MO (fl (wr (bm C i) a s)) z := (hmo.wr _ _).fl
  have hnow : (fl (wr (bm C i) a s)).now = (C.ms.getD i noM).now.set a s := by
    rw [fl_now, w1.2, hb]
    rfl
  refine ⟨rfl, by show (C.ms.set _ _).length = _; rw [List.length_set]; exact h.len, fun j hj => ?_, fun j => ?_, fun j hj hP => ?_, fun j k hj hk => ?_⟩
  · show ((C.ms.set _ _).getD j noM).las.length = z ∧ ((C.ms.set _ _).getD j noM).now.length = z
    rw [key]
    split
    · exact hmF.2
    · exact h.ev j (by simpa using hj)
  · show ((C.ms.set _ _).getD j noM).dead = _
    rw [key]
    split
    · rename_i e; rw [e, hd]; exact hmF.1
    · exact h.dd j
  · show ((C.ms.set _ _).getD j noM).now.getD a noS = s
    rw [key]
    split
    · rw [hnow]
      exact getD_set_eq (by have := (h.ev i hiC).2; omega) _ _
    · rename_i e
      exact h.at_ j hj (hP.resolve_right e)
  · show ((C.ms.set _ _).getD j noM).now.getD k noS = _
    rw [key]
    split
    · rename_i e
      rw [hnow, getD_set_ne (fun h => hk h.symm), e]
      exact h.ot i k hi hk
    · exact h.ot j k hj hk
theorem pb_ok {a : Nat} {s : ByteArray} {B : BS} {z : Nat} (hs : s.size = 64) (ha : a < z) : ∀ (l : List Nat) (C : BS) (P : Nat → Prop), PbI a s B z P C → (∀ i ∈ l, i < B.ms.length ∧ ddB B i = false) → ∃ C', l.foldl (p1 a s) (C, false) = (C', false) ∧ PbI a s B z (fun j => P j ∨ j ∈ l) C'
  | [], C, P, h, _ => ⟨C, rfl, h.pw, h.len, h.ev, h.dd, fun i hi hP => h.at_ i hi (hP.resolve_right (by simp)), h.ot⟩
  | i :: l, C, P, h, hl => by
    obtain ⟨h1, h2⟩ := hl i (by simp)
    obtain ⟨C1, e1, g1⟩ := p1_ok h hs ha i h1 h2
    obtain ⟨C2, e2, g2⟩ := pb_ok hs ha l C1 _ g1 (fun j hj => hl j (by simp [hj]))
    refine ⟨C2, by rw [List.foldl_cons, e1]; exact e2, g2.pw, g2.len, g2.ev, g2.dd, fun j hj hP => g2.at_ j hj ?_, g2.ot⟩
    rcases hP with hP | hP
    · exact .inl (.inl hP)
    · rcases List.mem_cons.1 hP with e | e
      · exact .inl (.inr e)
      · exact .inr e
/-- a label is published: it stands on all live members. -/
theorem pub_ok {K : KS} {M : LB} {z : Nat} (pw : K.b.pw = none) (len : (K.b.ms.length : Int) = M.n) (ev : Ev K.b z) (zs : 100 + M.s ≤ (z : Int)) (good : lg (nx K M) = true) (e0 : 0 ≤ K.l.ep)
    (pre : ∀ i, i < K.b.ms.length → ddB K.b i = false → gtE (sec_ K.b i (K.l.ep % 2).toNat) = 0 → (gtL (sec_ K.b i (K.l.ep % 2).toNat)).ep ≤ K.l.ep) :
    puE' K M = 0 ∧ (puK K M).l = nx K M ∧ Bo (puK K M).b (nx K M) z ∧ (∀ i, ddB (puK K M).b i = ddB K.b i) ∧ (puK K M).b.g ≤ K.b.g + 64 ∧ (puK K M).b.ms.length = K.b.ms.length := by
  have hgg := ((lg_iff _).1 good).1
  have hp : puS (nx K M) = ptS (nx K M) := if_pos good
  have hz2 : 2 ≤ z := by
    have h1 := ((gg_iff _ _).1 hgg).2.2.1
    have h2 : 1 ≤ M.s := h1
    omega
  obtain ⟨a, ea⟩ : ∃ a : Nat, (K.l.ep + 1) % 2 = a := ⟨((K.l.ep + 1) % 2).toNat, by omega⟩
  have ha : a < 2 := by omega
  obtain ⟨C, e1, g1⟩ := pb_ok (a := a) (s := ptS (nx K M)) (B := K.b) (z := z) (ptS_size _) (by omega) (lvL 0 K.b.ms) K.b (fun _ => False) ⟨pw, rfl, ev, fun _ => rfl, fun _ _ h => h.elim, fun _ _ _ _ => rfl⟩ (fun i hi => (lv_iff K.b i).1 hi)
  have hR : pbR K M = (C, false) := by
    unfold pbR pbF
    rw [ea, hp]
    exact e1
  have hg := (pbF_g ((K.l.ep + 1) % 2) (puS (nx K M)) (lvL 0 K.b.ms) K.b)
  have hK : puK K M = ⟨C, nx K M⟩ := by unfold puK; rw [hR]; rfl
  have hE : puE' K M = 0 := by unfold puE'; rw [hR]; rfl
  have hgC : C.g ≤ K.b.g + 2 * (lvL 0 K.b.ms).length := by
    have h1 := hg.1
    rw [show pbF ((K.l.ep + 1) % 2) (puS (nx K M)) (lvL 0 K.b.ms) K.b = (C, false) from hR] at h1
    exact h1
  have hll := lvL_len K.b.ms 0
  rw [hK]
  refine ⟨hE, rfl, ⟨g1.pw, by show (C.ms.length : Int) = M.n; rw [g1.len]; exact len, g1.ev, zs, good, fun i hi hd => ?_, fun i hi hd hg => ?_⟩, g1.dd, ?_, g1.len⟩
  · show sec_ C i ((K.l.ep + 1) % 2).toNat = _
    rw [ea, Int.toNat_natCast]
    have hi' : i < K.b.ms.length := by rw [← g1.len]; exact hi
    exact g1.at_ i hi' (.inr ((lv_iff K.b i).2 ⟨hi', by rw [← g1.dd i]; exact hd⟩))
  · have hi' : i < K.b.ms.length := by rw [← g1.len]; exact hi
    have e2 : ((nx K M).ep + 1) % 2 = K.l.ep % 2 := by show (K.l.ep + 1 + 1) % 2 = _; omega
    rw [e2] at hg ⊢
    have e3 : (K.l.ep % 2).toNat ≠ a := by omega
    dsimp only at hg ⊢
    rw [g1.ot i _ hi' e3] at hg ⊢
    have := pre i hi' (by rw [← g1.dd i]; exact hd) hg
    show _ < K.l.ep + 1
    omega
  · have hn : K.b.ms.length ≤ 32 := by
      have h1 := ((gg_iff _ _).1 hgg).2.1
      have h2 : M.n ≤ 32 := h1
      omega
    show C.g ≤ _
    omega

/-! ### labels that stay good -/
theorem Bo.kok {K : KS} {z : Nat} (h : Bo K.b K.l z) (he : K.l.ep < 9007199254740992) (hg : K.b.g + 100 < 1000000) : Kok K := by
  obtain ⟨g1, g2, g3, g4, g5, g6⟩ := (lg_iff _).1 h.good
  have := h.len
  exact ⟨h.len, by omega, by omega, by omega, he, hg⟩
theorem nx_good {K : KS} {M : LB} (hg : gg M.n M.s = true) (h1 : 1 ≤ K.l.ep + 1) (h2 : K.l.ep + 1 ≤ 9007199254740992) (h3 : (M.sts.length : Int) = M.n) (h4 : (M.mks.length : Int) = M.n) (h5 : ∀ i, i < M.sts.length → mh (M.sts.getD i 0) (M.mks.getD i 0) M.s = true) : lg (nx K M) = true :=
  (lg_iff _).2 ⟨hg, h1, h2, h3, h4, (mg_iff _ _).2 h5⟩
theorem ch_good {K : KS} {L : LB} (h : lg L = true) (h1 : 0 ≤ K.l.ep) (h2 : K.l.ep + 1 ≤ 9007199254740992) (m : Nat) (st mk : Int) (hm : mh st mk L.s = true) : lg (nx K (chL L m st mk)) = true := by
  obtain ⟨g1, g2, g3, g4, g5, g6⟩ := (lg_iff _).1 h
  refine nx_good g1 (by omega) h2 (by show ((L.sts.set _ _).length : Int) = L.n; rw [List.length_set]; exact g4) (by show ((L.mks.set _ _).length : Int) = L.n; rw [List.length_set]; exact g5) fun i hi => ?_
  have hi1 : i < L.sts.length := by simpa [chL] using hi
  have hi2 : i < L.mks.length := by omega
  show mh ((L.sts.set m st).getD i 0) ((L.mks.set m mk).getD i 0) L.s = true
  by_cases e : m = i
  · subst e
    rw [getD_set_eq hi1, getD_set_eq hi2]; exact hm
  · rw [getD_set_ne e, getD_set_ne e]
    exact (mg_iff L _).1 g6 i hi1
theorem wd_good {K : KS} {B : BS} {L : LB} (h : lg L = true) (h1 : 0 ≤ K.l.ep) (h2 : K.l.ep + 1 ≤ 9007199254740992) : lg (nx K (wdL B L)) = true := by
  obtain ⟨g1, g2, g3, g4, g5, g6⟩ := (lg_iff _).1 h
  refine nx_good g1 (by omega) h2 (by show ((wdV _ _ _ _).length : Int) = L.n; rw [wdV_len]; exact g4) (by show ((wdV _ _ _ _).length : Int) = L.n; rw [wdV_len]; exact g5) fun i hi => ?_
  have hi1 : i < L.sts.length := by have : (wdL B L).sts.length = L.sts.length := wdV_len _ _ _ _; omega
  have hi2 : i < L.mks.length := by omega
  have hsp := ((gg_iff _ _).1 g1).2.2.1
  show mh ((wdV B 1 _ L.sts).getD i 0) ((wdV B 0 _ L.mks).getD i 0) L.s = true
  rw [wdV_at _ _ _ _ _ hi1, wdV_at _ _ _ _ _ hi2]
  split
  · exact mh_of (by omega) (by omega) (by omega) (by omega) (fun h => by omega)
  · exact (mg_iff L _).1 g6 i hi1
theorem Bo.pre {B : BS} {L : LB} {z : Nat} (h : Bo B L z) : ∀ i, i < B.ms.length → ddB B i = false → gtE (sec_ B i (L.ep % 2).toNat) = 0 → (gtL (sec_ B i (L.ep % 2).toNat)).ep ≤ L.ep := fun i hi hd _ => by
  rw [h.cur i hi hd, (gt_pt h.good).2]
  exact Int.le_refl _

/-! ### Fail, Replace, Advance -/
theorem put_at {B : BS} {m : Nat} (hm : m < B.ms.length) (S : MS) (j : Nat) : (put B (m : Int) S).ms.getD j noM = if j = m then S else B.ms.getD j noM := by
  unfold put
  dsimp only
  rw [Int.toNat_natCast]
  by_cases e : j = m
  · subst e; rw [if_pos rfl]; exact getD_set_eq hm _ _
  · rw [if_neg e]; exact getD_set_ne (fun h => e h.symm) _ _
theorem put_len (B : BS) (m : Int) (S : MS) : (put B m S).ms.length = B.ms.length := by unfold put; simp
/-- what a change of the label comes to. -/
structure Chg (K K' : KS) (E : Int) (L' : LB) (z : Nat) : Prop where
  e : E = 0
  l : K'.l = L'
  bo : Bo K'.b L' z
  g : K'.b.g ≤ K.b.g + 64
  len : K'.b.ms.length = K.b.ms.length
theorem fail_ok {K : KS} {z : Nat} (h : Bo K.b K.l z) (he : K.l.ep + 1 ≤ 9007199254740992) (m : Nat) (hm : (m : Int) < K.l.n) (hk : knK K m = false) : Chg K (bfK K m) (bfE K m) (nx K (chL K.l m 1 0)) z ∧ ∀ i, ddB (bfK K m).b i = if i = m then true else ddB K.b i := by
  have hmB : m < K.b.ms.length := by have := h.len; omega
  obtain ⟨g1, g2, g3, g4, g5, g6⟩ := (lg_iff _).1 h.good
  have hin : inK K (m : Int) := ⟨by omega, hm⟩
  have hb : bm K.b (m : Int) = K.b.ms.getD m noM := by unfold bm; rw [Int.toNat_natCast]
  have key := put_at hmB (fa (bm K.b (m : Int)))
  have hdd : ∀ i, ddB (faK K m).b i = if i = m then true else ddB K.b i := fun i => by
    unfold ddB faK
    dsimp only
    rw [key]
    split
    · rfl
    · rfl
  have hgood := ch_good (K := faK K m) h.good (by show 0 ≤ K.l.ep; omega) he m 1 0 (mh_of (by omega) (by omega) (by omega) (by have := ((gg_iff _ _).1 g1).2.2.1; omega) (fun h => by omega))
  have hev : Ev (faK K m).b z := fun i hi => by
    have hi' : i < K.b.ms.length := by rw [← put_len K.b (m : Int) (fa (bm K.b m))]; exact hi
    show ((put K.b (m : Int) _).ms.getD i noM).las.length = z ∧ ((put K.b (m : Int) _).ms.getD i noM).now.length = z
    rw [key]
    split
    · rename_i e; rw [hb, ← e]; exact h.ev i hi'
    · exact h.ev i hi'
  have p := pub_ok (K := faK K m) (M := chL K.l m 1 0) (z := z) h.pw (by show (((put K.b (m : Int) _).ms.length : Nat) : Int) = K.l.n; rw [put_len]; exact h.len) hev h.zs hgood (by show 0 ≤ K.l.ep; omega) (fun i hi hd => by
    have hi' : i < K.b.ms.length := by rw [← put_len K.b (m : Int) (fa (bm K.b m))]; exact hi
    rw [hdd] at hd
    have hne : ¬ i = m := fun e => by rw [if_pos e] at hd; cases hd
    rw [if_neg hne] at hd
    have e1 : sec_ (faK K m).b i ((faK K m).l.ep % 2).toNat = sec_ K.b i (K.l.ep % 2).toNat := by
      unfold sec_ faK
      dsimp only
      rw [key, if_neg hne]
    rw [e1]
    exact h.pre i hi' hd)
  obtain ⟨p1, p2, p3, p4, p5, p6⟩ := p
  have eE : bfE K m = puE' (faK K m) (chL K.l m 1 0) := by unfold bfE; rw [if_pos hin, if_neg (by rw [hk]; simp), Int.toNat_natCast]
  have eK : bfK K m = puK (faK K m) (chL K.l m 1 0) := by unfold bfK; rw [if_pos hin, if_neg (by rw [hk]; simp), Int.toNat_natCast]
  rw [eE, eK]
  refine ⟨⟨p1, p2, p3, p5, ?_⟩, fun i => by rw [p4 i, hdd i]⟩
  rw [p6]; exact put_len _ _ _
theorem rep_ok {K : KS} {z : Nat} (h : Bo K.b K.l z) (he : K.l.ep + 1 ≤ 9007199254740992) (m : Nat) (hm : (m : Int) < K.l.n) (hs : K.l.sts.getD m 0 = 1) : Chg K (brK K m) (brE K m) (nx K (chL K.l m 2 0)) z ∧ ∀ i, ddB (brK K m).b i = if i = m then false else ddB K.b i := by
  have hmB : m < K.b.ms.length := by have := h.len; omega
  obtain ⟨g1, g2, g3, g4, g5, g6⟩ := (lg_iff _).1 h.good
  have hin : inK K (m : Int) := ⟨by omega, hm⟩
  have hb : bm K.b (m : Int) = K.b.ms.getD m noM := by unfold bm; rw [Int.toNat_natCast]
  have key := put_at hmB (rp (bm K.b (m : Int)))
  have hdd : ∀ i, ddB (rpK K m).b i = if i = m then false else ddB K.b i := fun i => by
    unfold ddB rpK
    dsimp only
    rw [key]
    split
    · rfl
    · rfl
  have hgood := ch_good (K := rpK K m) h.good (by show 0 ≤ K.l.ep; omega) he m 2 0 (mh_of (by omega) (by omega) (by omega) (by have := ((gg_iff _ _).1 g1).2.2.1; omega) (fun h => by omega))
  have hz := (h.ev m hmB).1
  have hev : Ev (rpK K m).b z := fun i hi => by
    have hi' : i < K.b.ms.length := by rw [← put_len K.b (m : Int) (rp (bm K.b m))]; exact hi
    show ((put K.b (m : Int) _).ms.getD i noM).las.length = z ∧ ((put K.b (m : Int) _).ms.getD i noM).now.length = z
    rw [key]
    split
    · rw [hb]
      unfold rp
      simp only [List.length_replicate]
      exact ⟨hz, hz⟩
    · exact h.ev i hi'
  have p := pub_ok (K := rpK K m) (M := chL K.l m 2 0) (z := z) h.pw (by show (((put K.b (m : Int) _).ms.length : Nat) : Int) = K.l.n; rw [put_len]; exact h.len) hev h.zs hgood (by show 0 ≤ K.l.ep; omega) (fun i hi hd hgt => by
    have hi' : i < K.b.ms.length := by rw [← put_len K.b (m : Int) (rp (bm K.b m))]; exact hi
    rw [hdd] at hd
    by_cases hne : i = m
    · have e1 : sec_ (rpK K m).b i ((rpK K m).l.ep % 2).toNat = z64 := by
        unfold sec_ rpK
        dsimp only
        rw [key, if_pos hne, hb]
        unfold rp
        dsimp only
        have h2 := h.zs
        have h3 := ((gg_iff _ _).1 g1).2.2.1
        rw [List.getD_eq_getElem?_getD, List.getElem?_replicate, if_pos (by omega)]
        rfl
      rw [e1] at hgt
      exact absurd hgt gt_z64
    · rw [if_neg hne] at hd
      have e1 : sec_ (rpK K m).b i ((rpK K m).l.ep % 2).toNat = sec_ K.b i (K.l.ep % 2).toNat := by
        unfold sec_ rpK
        dsimp only
        rw [key, if_neg hne]
      rw [e1] at hgt ⊢
      exact h.pre i hi' hd hgt)
  obtain ⟨p1, p2, p3, p4, p5, p6⟩ := p
  have eE : brE K m = puE' (rpK K m) (chL K.l m 2 0) := by unfold brE; rw [if_pos hin, if_pos (by rw [Int.toNat_natCast]; exact hs), Int.toNat_natCast]
  have eK : brK K m = puK (rpK K m) (chL K.l m 2 0) := by unfold brK; rw [if_pos hin, if_pos (by rw [Int.toNat_natCast]; exact hs), Int.toNat_natCast]
  rw [eE, eK]
  refine ⟨⟨p1, p2, p3, p5, ?_⟩, fun i => by rw [p4 i, hdd i]⟩
  rw [p6]; exact put_len _ _ _
theorem adv_ok {K : KS} {z : Nat} (h : Bo K.b K.l z) (he : K.l.ep + 1 ≤ 9007199254740992) (m : Nat) (t : Int) (hx : baX K m t = 0) : Chg K (baK K m t) (baE K m t) (nx K (baM K m t)) z ∧ ∀ i, ddB (baK K m t).b i = ddB K.b i := by
  obtain ⟨g1, g2, g3, g4, g5, g6⟩ := (lg_iff _).1 h.good
  have hsp := ((gg_iff _ _).1 g1).2.2.1
  have hx2 : inK K (m : Int) ∧ K.l.mks.getD m 0 ≤ t ∧ t ≤ K.l.s := by
    unfold baX at hx
    rw [Int.toNat_natCast] at hx
    split at hx
    · rename_i h1
      split at hx
      · rename_i h2
        exact ⟨h1, h2⟩
      · omega
    · omega
  have hmB : m < K.l.sts.length := by have := hx2.1.2; omega
  have hmk := (mh_bd ((mg_iff K.l _).1 g6 m hmB) hsp).2.2.1
  have hgood : lg (nx K (baM K m t)) = true := by
    unfold baM
    split
    · exact ch_good h.good (by omega) he _ 0 0 (mh_of (by omega) (by omega) (by omega) (by omega) (fun h => by omega))
    · exact ch_good h.good (by omega) he _ 2 t (mh_of (by omega) (by omega) (by omega) (by omega) (fun h => rfl))
  have hns : (baM K m t).n = K.l.n ∧ (baM K m t).s = K.l.s := by unfold baM; split <;> exact ⟨rfl, rfl⟩
  obtain ⟨p1, p2, p3, p4, p5, p6⟩ := pub_ok (K := K) (M := baM K m t) (z := z) h.pw (by rw [hns.1]; exact h.len) h.ev (by rw [hns.2]; exact h.zs) hgood (by omega) h.pre
  have eE : baE K m t = puE' K (baM K m t) := by unfold baE; rw [if_pos hx]
  have eK : baK K m t = puK K (baM K m t) := by unfold baK; rw [if_pos hx]
  rw [eE, eK]
  exact ⟨⟨p1, p2, p3, p5, p6⟩, p4⟩

end Go.Proofs.YtinpkfdmellleaaGreat

namespace Go.Proofs.YtinpkfdmellleaaGreat
open Go.RowKit Plain
set_option linter.unusedVariables false

/-! ### the newest -/
theorem newest_is {l : List ByteArray} {L : LB} (hg : lg L = true) (h1 : ∀ t ∈ l, gtE t = 0 → gtL t = L ∨ (gtL t).ep < L.ep) : ∀ k, k ≤ l.length → (nwL l k = L ∧ nwF l k = true) ∨ ((nwL l k).ep < L.ep ∧ ∀ i, i < k → l.getD i noS ≠ ptS L)
  | 0, _ => .inr ⟨by have := ((lg_iff _).1 hg).2.1; show (0 : Int) < L.ep; omega, fun i hi => absurd hi (by omega)⟩
  | k + 1, hk => by
    have ih := newest_is hg h1 k (by omega)
    have hx : l.getD k noS ∈ l := by
      rw [List.getD_eq_getElem?_getD, List.getElem?_eq_getElem (by omega)]
      exact List.getElem_mem _
    have hp := gt_pt hg
    by_cases he : gtE (l.getD k noS) = 0
    · rcases h1 _ hx he with e | e
      · left
        rcases ih with ⟨a, b⟩ | ⟨a, b⟩
        · have hno := nw_no (l := l) (k := k) (fun h => by rw [a, e] at h; omega)
          rw [hno.1, hno.2]; exact ⟨a, b⟩
        · have hy := nw_yes (l := l) (k := k) ⟨he, by rw [e]; exact a⟩
          rw [hy.1, hy.2]; exact ⟨e, rfl⟩
      · rcases ih with ⟨a, b⟩ | ⟨a, b⟩
        · left
          have hno := nw_no (l := l) (k := k) (fun h => by rw [a] at h; omega)
          rw [hno.1, hno.2]; exact ⟨a, b⟩
        · right
          refine ⟨?_, fun i hi => ?_⟩
          · by_cases hc : gtE (l.getD k noS) = 0 ∧ (nwL l k).ep < (gtL (l.getD k noS)).ep
            · rw [(nw_yes hc).1]; exact e
            · rw [(nw_no hc).1]; exact a
          · by_cases hik : i = k
            · subst hik
              intro hh
              rw [hh, hp.2] at e
              omega
            · exact b i (by omega)
    · have hno := nw_no (l := l) (k := k) (fun h => he h.1)
      rw [hno.1, hno.2]
      rcases ih with ih | ⟨a, b⟩
      · exact .inl ih
      · refine .inr ⟨a, fun i hi => ?_⟩
        by_cases hik : i = k
        · subst hik
          intro hh
          rw [hh] at he
          exact he hp.1
        · exact b i (by omega)
theorem newest_all {l : List ByteArray} {L : LB} (hg : lg L = true) (h1 : ∀ t ∈ l, gtE t = 0 → gtL t = L ∨ (gtL t).ep < L.ep) (h2 : ptS L ∈ l) : nwL l l.length = L ∧ nwF l l.length = true := by
  rcases newest_is hg h1 l.length (Nat.le_refl _) with h | ⟨_, h⟩
  · exact h
  · obtain ⟨i, hi, e⟩ := List.getElem_of_mem h2
    exact absurd (by rw [List.getD_eq_getElem?_getD, List.getElem?_eq_getElem hi]; exact e) (h i hi)

/-! ### reading -/
theorem rd_ok {B C : BS} {z : Nat} (pw : B.pw = none) (ev : Ev B z) (hz : 2 ≤ z) (h : Sm B C) (i : Nat) (hi : i < B.ms.length) (hd : ddB B i = false) (a : Nat) (ha : a < 2) (ts : List ByteArray) : r1 i (a : Int) (C, ts, false) = (rdB C i a, ts ++ [sec_ B i a], false) := by
  have hf : fdE C (i : Int) = 0 := if_pos ⟨by omega, by rw [h.len]; omega⟩
  have hst : stE C (i : Int) = 0 := st_pw (h.pw.trans pw) hf
  have hb : bm C (i : Int) = C.ms.getD i noM := by unfold bm; rw [Int.toNat_natCast]
  have hrc : rcE (bm C (i : Int)) (a : Int) = 0 := by
    unfold rcE
    rw [hb, (h.at_ i).2.2.1]
    unfold ddB at hd
    rw [hd, if_neg (by simp), if_pos ⟨by omega, by rw [(h.at_ i).2.1, (ev i hi).1]; omega⟩]
  have hE : rdE C (i : Int) (a : Int) = 0 := by unfold rdE; rw [if_pos hst]; exact hrc
  have hT : rdT C (i : Int) (a : Int) = sec_ B i a := by
    unfold rdT
    rw [if_pos hst]
    unfold rdS
    rw [if_pos hrc, hb, (h.at_ i).1, Int.toNat_natCast]
    rfl
  rw [r1_go rfl]
  dsimp only
  rw [hE, hT, if_pos rfl]
  rfl
theorem rdF_ok {B : BS} {z : Nat} (pw : B.pw = none) (ev : Ev B z) (hz : 2 ≤ z) : ∀ (l : List Nat) (C : BS) (ts : List ByteArray), Sm B C → (∀ i ∈ l, i < B.ms.length ∧ ddB B i = false) → ∃ C', l.foldl r2 (C, ts, false) = (C', ts ++ l.flatMap (fun i => [sec_ B i 0, sec_ B i 1]), false) ∧ Sm B C'
  | [], C, ts, h, _ => ⟨C, by simp, h⟩
  | i :: l, C, ts, h, hl => by
    obtain ⟨h1, h2⟩ := hl i (by simp)
    have e1 := rd_ok pw ev hz h i h1 h2 0 (by omega) ts
    have s1 : Sm B (rdB C i (0 : Nat)) := h.trans (Sm.rd _ _ _)
    have e2 := rd_ok pw ev hz s1 i h1 h2 1 (by omega) (ts ++ [sec_ B i 0])
    have s2 : Sm B (rdB (rdB C i (0 : Nat)) i (1 : Nat)) := s1.trans (Sm.rd _ _ _)
    obtain ⟨C', e3, s3⟩ := rdF_ok pw ev hz l _ (ts ++ [sec_ B i 0] ++ [sec_ B i 1]) s2 (fun j hj => hl j (by simp [hj]))
    refine ⟨C', ?_, s3⟩
    rw [List.foldl_cons]
    have e4 : r2 (C, ts, false) i = (rdB (rdB C i (0 : Nat)) i (1 : Nat), ts ++ [sec_ B i 0] ++ [sec_ B i 1], false) := by
      show r1 i ((1 : Nat) : Int) (r1 i ((0 : Nat) : Int) (C, ts, false)) = _
      rw [e1, e2]
    rw [e4, e3]
    simp [List.flatMap_cons]
theorem dd_sm {B C : BS} (h : Sm B C) (i : Nat) : ddB C i = ddB B i := (h.at_ i).2.2.1
theorem sec_sm {B C : BS} (h : Sm B C) (i j : Nat) : sec_ C i j = sec_ B i j := by unfold sec_; rw [(h.at_ i).1]
/-- what Open reads. -/
theorem opn_read {B : BS} {L : LB} {z : Nat} (h : Bo B L z) (hl : ∃ i, i < B.ms.length ∧ ddB B i = false) : ∃ C, opnQ B = ⟨C, L⟩ ∧ opnX B = 0 ∧ opnL B = L ∧ Sm B C := by
  obtain ⟨g1, g2, g3, g4, g5, g6⟩ := (lg_iff _).1 h.good
  have hz : 2 ≤ z := by have := h.zs; have := ((gg_iff _ _).1 g1).2.2.1; omega
  obtain ⟨C, e1, s1⟩ := rdF_ok h.pw h.ev hz (lvL 0 B.ms) B [] (Sm.refl B) (fun i hi => (lv_iff B i).1 hi)
  have hR : rdF (lvL 0 B.ms) B = (C, (lvL 0 B.ms).flatMap (fun i => [sec_ B i 0, sec_ B i 1]), false) := by
    unfold rdF
    rw [e1]; simp
  have hne : (lvL 0 B.ms).length ≠ 0 := fun h0 => by
    obtain ⟨i, h1, h2⟩ := hl
    have := (lv_iff B i).2 ⟨h1, h2⟩
    rw [List.eq_nil_of_length_eq_zero h0] at this
    cases this
  have hsec : ∀ i, i < B.ms.length → ddB B i = false → ∀ j, j < 2 → gtE (sec_ B i j) = 0 → gtL (sec_ B i j) = L ∨ (gtL (sec_ B i j)).ep < L.ep := fun i hi hd j hj hg => by
    have hep : 0 ≤ L.ep := by omega
    by_cases e : j = (L.ep % 2).toNat
    · left
      rw [e, h.cur i hi hd]
      exact (gt_pt h.good).2
    · right
      have e2 : j = ((L.ep + 1) % 2).toNat := by omega
      rw [e2] at hg ⊢
      exact h.old i hi hd hg
  have hN := newest_all (l := (lvL 0 B.ms).flatMap (fun i => [sec_ B i 0, sec_ B i 1])) h.good (fun t ht hg => by
    obtain ⟨i, hi, ht2⟩ := List.mem_flatMap.1 ht
    obtain ⟨h1, h2⟩ := (lv_iff B i).1 hi
    simp only [List.mem_cons, List.not_mem_nil, or_false] at ht2
    rcases ht2 with rfl | rfl
    · exact hsec i h1 h2 0 (by omega) hg
    · exact hsec i h1 h2 1 (by omega) hg) (by
    obtain ⟨i, h1, h2⟩ := hl
    refine List.mem_flatMap.2 ⟨i, (lv_iff B i).2 ⟨h1, h2⟩, ?_⟩
    have hc := h.cur i h1 h2
    have hep : (L.ep % 2).toNat = 0 ∨ (L.ep % 2).toNat = 1 := by omega
    rcases hep with e | e
    · rw [e] at hc; rw [hc]; simp
    · rw [e] at hc; rw [hc]; simp)
  have hL : opnL B = L := by unfold opnL; rw [hR]; exact hN.1
  have hQ : opnQ B = ⟨C, L⟩ := by unfold opnQ; rw [if_neg hne, hL, hR]
  have hft : ftB C L.n L.s = true := by
    rw [ft_yes (h.ev.sm s1) (by have := h.len; have := ((gg_iff _ _).1 g1).1; rw [s1.len]; omega) (by rw [s1.len]; exact h.len)]
    exact decide_eq_true h.zs
  refine ⟨C, hQ, ?_, hL, s1⟩
  unfold opnX
  rw [if_neg hne, hL, hR]
  dsimp only
  rw [if_neg (by simp), hN.2, if_neg (by simp), hft, if_neg (by simp)]
theorem opn_ok {B : BS} {L : LB} {z : Nat} (h : Bo B L z) (he : L.ep + 1 ≤ 9007199254740992) (hl : ∃ i, i < B.ms.length ∧ ddB B i = false) : opnE B = 0 ∧ opnL B = L ∧ (opnK B).l = ⟨L.n, L.s, L.ep + 1, wdV B 1 B.ms.length L.sts, wdV B 0 B.ms.length L.mks⟩ ∧ Bo (opnK B).b (opnK B).l z ∧ (∀ i, ddB (opnK B).b i = ddB B i) ∧ (opnK B).b.g ≤ B.g + 64 ∧ (opnK B).b.ms.length = B.ms.length := by
  obtain ⟨C, hQ, hX, hL, s1⟩ := opn_read h hl
  obtain ⟨g1, g2, g3, g4, g5, g6⟩ := (lg_iff _).1 h.good
  obtain ⟨p1, p2, p3, p4, p5, p6⟩ := pub_ok (K := ⟨C, L⟩) (M := wdL C L) (z := z) (s1.pw.trans h.pw) (by show (C.ms.length : Int) = L.n; rw [s1.len]; exact h.len) (h.ev.sm s1) h.zs (wd_good h.good (by show 0 ≤ L.ep; omega) he) (by show 0 ≤ L.ep; omega) (fun i hi hd hg => by
    show (gtL (sec_ C i (L.ep % 2).toNat)).ep ≤ L.ep
    rw [sec_sm s1]
    have hd2 : ddB B i = false := by rw [← dd_sm s1 i]; exact hd
    have hi2 : i < B.ms.length := by rw [← s1.len]; exact hi
    rw [h.cur i hi2 hd2, (gt_pt h.good).2]
    exact Int.le_refl _)
  have eE : opnE B = puE' ⟨C, L⟩ (wdL C L) := by unfold opnE; rw [if_pos hX, hQ]
  have eK : opnK B = puK ⟨C, L⟩ (wdL C L) := by unfold opnK; rw [if_pos hX, hQ]
  have ewd : ∀ v k l, wdV C v k l = wdV B v k l := fun v k l => by
    induction k with
    | zero => rfl
    | succ k ih => simp only [wdV]; rw [dd_sm s1, ih]
  have eN : nx ⟨C, L⟩ (wdL C L) = ⟨L.n, L.s, L.ep + 1, wdV B 1 B.ms.length L.sts, wdV B 0 B.ms.length L.mks⟩ := by
    unfold nx wdL
    dsimp only
    rw [s1.len, ewd, ewd]
  rw [eE, eK, p2]
  refine ⟨p1, hL, eN, p3, fun i => (p4 i).trans (dd_sm s1 i), ?_, p6.trans s1.len⟩
  have := s1.g
  show _ ≤ B.g + 64
  have p5' : (puK ⟨C, L⟩ (wdL C L)).b.g ≤ C.g + 64 := p5
  omega

/-! ### a new array -/
theorem fm_ok {B : BS} {n s : Int} {z : Nat} (pw : B.pw = none) (ev : Ev B z) (hE : fmE B n s = 0) : Bo (fmS B n s) (newL n s) z ∧ (∀ i, i < B.ms.length → ddB (fmS B n s) i = false) ∧ (fmS B n s).g ≤ B.g + 32 * 69 ∧ (fmS B n s).ms.length = B.ms.length := by
  have hg : gg n s = true := by
    unfold fmE at hE
    cases h : gg n s with
    | true => rfl
    | false => rw [h] at hE; simp at hE
  have hft : ftB B n s = true := by
    unfold fmE at hE
    rw [if_pos hg] at hE
    cases h : ftB B n s with
    | true => rfl
    | false => rw [h] at hE; simp at hE
  have hlv : ¬ (lvL 0 B.ms).length < B.ms.length := fun h => by
    unfold fmE at hE
    rw [if_pos hg, if_pos hft, if_pos h] at hE
    omega
  obtain ⟨g1, g2, g3, g4⟩ := (gg_iff n s).1 hg
  obtain ⟨hlen, hz⟩ := of_decide_eq_true hft
  rw [(ev 0 (by omega)).1] at hz
  obtain ⟨ms, e1, e2, e3⟩ := fm_B (s := s.toNat) (p := puS (newL n s)) pw n.toNat (by omega)
  have hS : fmS B n s = ⟨none, B.md + n.toNat * (s.toNat + 5), B.g + n.toNat * (s.toNat + 5), ms⟩ := by
    unfold fmS
    rw [if_pos hE]
    unfold fmB
    rw [e1]
  have hgood := new_good hg
  have hm : ∀ i, i < B.ms.length → MO (ms.getD i noM) z ∧ (ms.getD i noM).now.getD 0 noS = z64 ∧ (ms.getD i noM).now.getD 1 noS = puS (newL n s) := fun i hi => by
    rw [e3 i, if_pos (by omega)]
    exact fm_M (all_mo ev hlv i hi) (by omega) (pu_size hgood)
  rw [hS]
  refine ⟨⟨rfl, by show (ms.length : Int) = n; omega, fun i hi => (hm i (by rw [← e2]; exact hi)).1.2, hz, hgood, fun i hi hd => ?_, fun i hi hd hg2 => ?_⟩, fun i hi => (hm i hi).1.1, ?_, e2⟩
  · show (ms.getD i noM).now.getD ((1 : Int) % 2).toNat noS = _
    rw [show ((1 : Int) % 2).toNat = 1 by decide, (hm i (by rw [← e2]; exact hi)).2.2]
    exact if_pos hgood
  · have e4 : sec_ ⟨none, B.md + n.toNat * (s.toNat + 5), B.g + n.toNat * (s.toNat + 5), ms⟩ i (((newL n s).ep + 1) % 2).toNat = z64 := by
      show (ms.getD i noM).now.getD (((1 : Int) + 1) % 2).toNat noS = _
      rw [show (((1 : Int) + 1) % 2).toNat = 0 by decide]
      exact (hm i (by rw [← e2]; exact hi)).2.1
    rw [e4] at hg2
    exact absurd hg2 gt_z64
  · have : n.toNat * (s.toNat + 5) ≤ 32 * 69 := Nat.mul_le_mul (by omega) (by omega)
    show B.g + _ ≤ _
    omega

/-! ### a new bay -/
theorem nw_bay (N z : Nat) (h1 : 1 ≤ N) (h2 : N ≤ 32) (h3 : 1 ≤ z) (h4 : z ≤ 256) : (nwB (N : Int) (z : Int)).pw = none ∧ Ev (nwB (N : Int) (z : Int)) z ∧ (nwB (N : Int) (z : Int)).ms.length = N ∧ (nwB (N : Int) (z : Int)).g = 0 ∧ ∀ i, ddB (nwB (N : Int) (z : Int)) i = false := by
  have e1 : (min (max (N : Int) 1) 32).toNat = N := by omega
  have e2 : nwN (z : Int) = z := by unfold nwN; omega
  have hms : (nwB (N : Int) (z : Int)).ms = List.replicate N (nw z) := by unfold nwB; rw [e1, e2]
  have hat : ∀ i, (nwB (N : Int) (z : Int)).ms.getD i noM = if i < N then nw z else noM := fun i => by
    rw [hms, List.getD_eq_getElem?_getD, List.getElem?_replicate]
    split <;> rfl
  refine ⟨rfl, fun i hi => ?_, by rw [hms, List.length_replicate], rfl, fun i => ?_⟩
  · rw [hms, List.length_replicate] at hi
    rw [hat, if_pos hi]
    unfold nw
    simp
  · unfold ddB
    rw [hat]
    split
    · rfl
    · rfl
theorem lv_all {B : BS} (h : ∀ i, i < B.ms.length → ddB B i = false) : (lvL 0 B.ms).length = B.ms.length := by
  have key : ∀ (l : List MS) (i : Nat), (∀ S ∈ l, S.dead = false) → (lvL i l).length = l.length := fun l => by
    induction l with
    | nil => intro i _; rfl
    | cons S l ih =>
      intro i hl
      simp only [lvL]
      rw [hl S (by simp), if_neg (by simp), List.length_cons, List.length_cons, ih (i + 1) (fun R hR => hl R (by simp [hR]))]
  refine key _ _ fun S hS => ?_
  obtain ⟨i, hi, e⟩ := List.getElem_of_mem hS
  have := h i hi
  unfold ddB at this
  rw [List.getD_eq_getElem?_getD, List.getElem?_eq_getElem hi] at this
  rw [← e]; exact this
theorem fm_new (N S z : Nat) (h1 : 4 ≤ N) (h2 : N ≤ 32) (h3 : 1 ≤ S) (h4 : S ≤ 64) (h5 : 100 + S ≤ z) (h6 : z ≤ 256) : fmE (nwB N z) N S = 0 := by
  obtain ⟨q1, q2, q3, q4, q5⟩ := nw_bay N z (by omega) h2 (by omega) h6
  have hg : gg (N : Int) (S : Int) = true := (gg_iff _ _).2 ⟨by omega, by omega, by omega, by omega⟩
  have hf : ftB (nwB N z) N S = true := by
    rw [ft_yes q2 (by rw [q3]; omega) (by rw [q3])]
    exact decide_eq_true (by omega)
  unfold fmE
  rw [if_pos hg, if_pos hf, if_neg (by rw [lv_all (fun i _ => q5 i)]; omega)]
theorem wd_none {B : BS} (h : ∀ i, ddB B i = false) (v : Int) (l : List Int) : ∀ k, wdV B v k l = l
  | 0 => rfl
  | k + 1 => by simp only [wdV]; rw [h k, if_neg (by simp)]; exact wd_none h v l k

end Go.Proofs.YtinpkfdmellleaaGreat

namespace Go.Proofs.YtinpkfdmellleaaGreat
open Go.RowKit Plain
set_option linter.unusedVariables false

noncomputable def wB1 : BS := fmS (nwB (4 : Nat) (110 : Nat)) (4 : Nat) (2 : Nat)
noncomputable def wK1 : KS := opnK wB1
noncomputable def wK2 : KS := bfK wK1 ((1 : Nat) : Int)
noncomputable def wK3 : KS := brK wK2 ((1 : Nat) : Int)
noncomputable def wK4 : KS := baK wK3 ((1 : Nat) : Int) 2
structure WkA : Prop where
  f : fmE (nwB (4 : Nat) (110 : Nat)) (4 : Nat) (2 : Nat) = 0
  ev0 : Ev (nwB (4 : Nat) (110 : Nat)) 110
  pw0 : (nwB (4 : Nat) (110 : Nat)).pw = none
  g0 : (nwB (4 : Nat) (110 : Nat)).g + 10000 < 1000000
  ev1 : Ev wB1 110
  g1 : wB1.g + 100 < 1000000
  l1 : (opnL wB1).ep < 9007199254740992
  o : opnE wB1 = 0
  k1 : wK1.l = ⟨4, 2, 2, [0, 0, 0, 0], [0, 0, 0, 0]⟩
  ok1 : Kok wK1
  e1 : bfE wK1 ((1 : Nat) : Int) = 0
  ok2 : Kok wK2
  e2 : brE wK2 ((1 : Nat) : Int) = 0
  ok3 : Kok wK3
  n3 : wK3.b.ms.length = 4
  m3 : nxM wK3 4 = 1
  t3 : nxT wK3 4 = 0
  b3 : nxB wK3 4 = true
  e3 : baE wK3 ((1 : Nat) : Int) 2 = 0
  k4 : wK4.l = ⟨4, 2, 5, [0, 0, 0, 0], [0, 0, 0, 0]⟩
  g4 : lg wK4.l = true
set_option maxRecDepth 20000 in
theorem wk_all : WkA := by
  obtain ⟨q1, q2, q3, q4, q5⟩ := nw_bay 4 110 (by omega) (by omega) (by omega) (by omega)
  have hf := fm_new 4 2 110 (by omega) (by omega) (by omega) (by omega) (by omega) (by omega)
  obtain ⟨a1, a2, a3, a4⟩ := fm_ok (z := 110) q1 q2 hf
  rw [q4] at a3
  have hB1 : wB1 = fmS (nwB (4 : Nat) (110 : Nat)) (4 : Nat) (2 : Nat) := rfl
  have hlen1 : wB1.ms.length = 4 := a4.trans q3
  have hal : ∀ i, ddB wB1 i = false := fun i => by
    by_cases h : i < 4
    · exact a2 i (by rw [q3]; exact h)
    · unfold ddB
      rw [List.getD_eq_getElem?_getD, List.getElem?_eq_none (by rw [hlen1]; omega)]
      rfl
  obtain ⟨o1, o2, o3, o4, o5, o6, o7⟩ := opn_ok (B := wB1) (L := newL (4 : Nat) (2 : Nat)) (z := 110) a1 (by show (1 : Int) + 1 ≤ _; omega) ⟨0, by rw [hlen1]; omega, hal 0⟩
  have hk1 : wK1.l = ⟨4, 2, 2, [0, 0, 0, 0], [0, 0, 0, 0]⟩ := by
    show (opnK wB1).l = _
    rw [o3, wd_none hal, wd_none hal]
    rfl
  have bo1 : Bo wK1.b wK1.l 110 := o4
  have dd1 : ∀ i, ddB wK1.b i = false := fun i => (o5 i).trans (hal i)
  have len1 : wK1.b.ms.length = 4 := by unfold wK1; rw [o7]; exact hlen1
  have g1 : wK1.b.g ≤ 2300 := by
    have h1 : wK1.b.g ≤ wB1.g + 64 := o6
    have h2 : wB1.g ≤ 0 + 32 * 69 := a3
    omega
  have hkn : knK wK1 ((1 : Nat) : Int) = false := by unfold knK; rw [hk1]; rfl
  obtain ⟨c2, d2⟩ := fail_ok bo1 (by rw [hk1]; show (2 : Int) + 1 ≤ _; omega) 1 (by rw [hk1]; show ((1 : Nat) : Int) < 4; omega) hkn
  have hk2 : wK2.l = ⟨4, 2, 3, [0, 1, 0, 0], [0, 0, 0, 0]⟩ := by
    show (bfK wK1 _).l = _
    rw [c2.l]; unfold nx chL; rw [hk1]; rfl
  have bo2 : Bo wK2.b wK2.l 110 := by rw [show wK2.l = nx wK1 (chL wK1.l 1 1 0) from c2.l]; exact c2.bo
  have g2 : wK2.b.g ≤ 2400 := by have h1 : wK2.b.g ≤ wK1.b.g + 64 := c2.g; omega
  obtain ⟨c3, d3⟩ := rep_ok bo2 (by rw [hk2]; show (3 : Int) + 1 ≤ _; omega) 1 (by rw [hk2]; show ((1 : Nat) : Int) < 4; omega) (by rw [hk2]; rfl)
  have hk3 : wK3.l = ⟨4, 2, 4, [0, 2, 0, 0], [0, 0, 0, 0]⟩ := by
    show (brK wK2 _).l = _
    rw [c3.l]; unfold nx chL; rw [hk2]; rfl
  have bo3 : Bo wK3.b wK3.l 110 := by rw [show wK3.l = nx wK2 (chL wK2.l 1 2 0) from c3.l]; exact c3.bo
  have g3 : wK3.b.g ≤ 2500 := by have h1 : wK3.b.g ≤ wK2.b.g + 64 := c3.g; omega
  have len3 : wK3.b.ms.length = 4 := by
    have h1 : wK3.b.ms.length = wK2.b.ms.length := c3.len
    have h2 : wK2.b.ms.length = wK1.b.ms.length := c2.len
    omega
  have dd3 : ddB wK3.b 1 = false := by
    have h1 := d3 1
    rw [if_pos rfl] at h1
    exact h1
  have hn : nxF wK3 4 = some 1 := by
    have n1 : nxF wK3 1 = none := by rw [nx_skip (fun h => by rw [hk3] at h; exact absurd h.1 (by decide))]; rfl
    have n2 : nxF wK3 2 = some 1 := by
      rw [nxF]
      rw [if_pos ⟨by rw [hk3]; rfl, dd3⟩, n1]
    have n3 : nxF wK3 3 = some 1 := by rw [nx_skip (fun h => by rw [hk3] at h; exact absurd h.1 (by decide)), n2]
    rw [nx_skip (fun h => by rw [hk3] at h; exact absurd h.1 (by decide)), n3]
  have hx : baX wK3 ((1 : Nat) : Int) 2 = 0 := by
    have hin : inK wK3 ((1 : Nat) : Int) := ⟨by omega, by rw [hk3]; show ((1 : Nat) : Int) < 4; omega⟩
    unfold baX
    rw [if_pos hin, if_pos (by rw [hk3]; decide), if_pos (by rw [hk3]; rfl)]
  obtain ⟨c4, d4⟩ := adv_ok bo3 (by rw [hk3]; show (4 : Int) + 1 ≤ _; omega) 1 2 hx
  have hk4 : wK4.l = ⟨4, 2, 5, [0, 0, 0, 0], [0, 0, 0, 0]⟩ := by
    show (baK wK3 _ _).l = _
    rw [c4.l]; unfold nx baM chL; rw [hk3]; rfl
  have bo4 : Bo wK4.b (nx wK3 (baM wK3 ((1 : Nat) : Int) 2)) 110 := c4.bo
  refine ⟨hf, q2, q1, by rw [q4]; omega, a1.ev, by have : wB1.g ≤ 0 + 32 * 69 := a3; omega, by rw [o2]; show (1 : Int) < _; omega, o1, hk1, bo1.kok (by rw [hk1]; show (2 : Int) < _; omega) (by omega), c2.e, bo2.kok (by rw [hk2]; show (3 : Int) < _; omega) (by omega), c3.e, bo3.kok (by rw [hk3]; show (4 : Int) < _; omega) (by omega), len3, by unfold nxM; rw [hn]; rfl, by unfold nxT; rw [hn, hk3]; rfl, by unfold nxB; rw [hn]; rfl, c4.e, hk4, ?_⟩
  rw [show wK4.l = nx wK3 (baM wK3 ((1 : Nat) : Int) 2) from c4.l]
  exact bo4.good

end Go.Proofs.YtinpkfdmellleaaGreat

namespace Go.Proofs.YtinpkfdmellleaaGreat
open Go.RowKit Plain
set_option linter.unusedVariables false

theorem field_ep (n s ep : Int) (a1 a2 : Option Addr) (n1 n2 c1 c2 : Nat) (V : World) : (Instr.field 63 (.agg #[.int .i64 n, .int .i64 s, .int .i64 ep, .slice a1 n1 c1, .slice a2 n2 c2]) 1).run Tryz.prog V = .ok (.int .i64 ep) V := by kernel_rfl
theorem field_sts (n s ep : Int) (a1 a2 : Option Addr) (n1 n2 c1 c2 : Nat) (V : World) : (Instr.field 63 (.agg #[.int .i64 n, .int .i64 s, .int .i64 ep, .slice a1 n1 c1, .slice a2 n2 c2]) 2).run Tryz.prog V = .ok (.slice a1 n1 c1) V := by kernel_rfl
set_option maxRecDepth 100000 in
set_option maxHeartbeats 8000000 in
theorem wakes17 (w : World) : Calls Tryz.prog 9 #[] w fun e w' => e = .returned (.bool true) ∧ Kp w w' := by
  have A := hid wk_all
  have hfe := field_ep
  have hNw := bw_new ((4 : Nat) : Int) ((110 : Nat) : Int) w w (Kp.refl w)
  go_enter Tryz.func9, Tryz.ntmps9
  go_wp2_with fail
  refine hNw.mono ?_; rintro e w1 ⟨b, T1, rfl, hB1, k1, hT1⟩
  have hFm := format_any hB1 k1 ((4 : Nat) : Int) ((2 : Nat) : Int) A.out.ev0 A.out.pw0 A.out.g0
  rw [A.out.f] at hFm
  unfold gV at hFm
  have HB1 := hid hB1
  have K1 := hid k1
  clear hNw hB1 k1 hT1
  go_wp2_with fail
  refine hFm.mono ?_; rintro e w2 ⟨rfl, z2⟩
  have K2 : Hid (Kp w w2) := z2.below OL.bw HB1.out K1.out
  obtain ⟨T2, o2, _, _⟩ := z2
  have hOp := open_any (B := wB1) o2 K2.out A.out.ev1 A.out.l1 A.out.g1
  rw [A.out.o] at hOp
  have HB2 : Hid (Bw w w2 b T2 wB1) := o2
  clear hFm HB1 o2
  go_wp2_with fail
  refine hOp.mono ?_; rintro e w3 ⟨p, rfl, hx, _⟩
  obtain ⟨x, rfl, _, T3, sv, mv, X3, s3, _⟩ := hx rfl
  have K3 : Hid (Kp w w3) := Sp.kp K2.out s3 (OL.bw.new HB2.out)
  have HX3 : Hid (KX w w3 x b T3 wK1 sv mv) := X3
  have hLa := label_any X3 (by have := A.out.k1; show wK1.l.sts.length ≤ 1000; rw [this]; decide) (by have := A.out.k1; show wK1.l.mks.length ≤ 1000; rw [this]; decide)
  rw [show (opnK wB1).l = ⟨4, 2, 2, [0, 0, 0, 0], [0, 0, 0, 0]⟩ from A.out.k1] at hLa
  unfold lV at hLa
  dsimp only at hLa
  clear hOp X3 s3
  go_wp2_with fail
  refine hLa.mono ?_; rintro e w4 ⟨y1, y2, rfl, tw4, k4⟩
  obtain ⟨f1, f2, f3, rfl⟩ := tw4.1.shape
  obtain ⟨f4, f5, f6, rfl⟩ := tw4.2.1.shape
  clear tw4
  have K4 : Hid (Kp w w4) := K3.out.trans k4
  have HX4 := hid (HX3.out.kp k4)
  have hFa := bfail_any HX4.out K4.out A.out.ok1 ((1 : Nat) : Int)
  rw [A.out.e1] at hFa
  clear hLa HX3 k4
  go_wp2_with fail
  refine hFa.mono ?_; rintro e w5 ⟨rfl, z5⟩
  have K5 : Hid (Kp w w5) := z5.below HX4.out K4.out
  obtain ⟨T5, s5, m5, X5, _, _⟩ := z5
  have HX5 : Hid (KX w w5 x b T5 wK2 s5 m5) := X5
  have hRe := breplace_any HX5.out K5.out A.out.ok2 ((1 : Nat) : Int)
  rw [A.out.e2] at hRe
  clear hFa X5 HX4
  go_wp2_with fail
  refine hRe.mono ?_; rintro e w6 ⟨rfl, z6⟩
  have K6 : Hid (Kp w w6) := z6.below HX5.out K5.out
  obtain ⟨T6, s6, m6, X6, _, _⟩ := z6
  have HX6 : Hid (KX w w6 x b T6 wK3 s6 m6) := X6
  have hNx := next_anyB HX6.out K6.out A.out.ok3
  rw [A.out.n3, A.out.m3, A.out.t3, A.out.b3] at hNx
  clear hRe X6 HX5
  go_wp2_with fail
  refine hNx.mono ?_; rintro e w7 ⟨rfl, X7, s7⟩
  have HX7 := hid X7
  have K7 : Hid (Kp w w7) := Sp.kp K6.out s7 (OL.bw.new HX6.out.bay)
  have hAd := advance_any HX7.out K7.out A.out.ok3 ((1 : Nat) : Int) 2
  rw [A.out.e3] at hAd
  clear hNx X7 s7 HX6
  go_wp2_with fail
  refine hAd.mono ?_; rintro e w8 ⟨rfl, z8⟩
  have K8 : Hid (Kp w w8) := z8.below HX7.out K7.out
  obtain ⟨T8, s8, m8, X8, _, _⟩ := z8
  have HX8 : Hid (KX w w8 x b T8 wK4 s8 m8) := X8
  have hL2 := label_any HX8.out (by rw [A.out.k4]; decide) (by rw [A.out.k4]; decide)
  rw [A.out.k4] at hL2
  unfold lV at hL2
  dsimp only at hL2
  clear hAd X8 HX7
  go_wp2_with fail
  refine hL2.mono ?_; rintro e w9 ⟨y3, y4, rfl, tw, k9⟩
  obtain ⟨g1, c1, g2, c2, rfl, rfl, q1, q2, q3, q4, _, _, _, cc1, cc2⟩ := tw.shape (by decide) (by decide)
  have K9 : Hid (Kp w w9) := K8.out.trans k9
  have e1 := cc1 1 (by decide)
  have kA : Kp w9 (w9.alloc (.cells #[.int .i64 4, .int .i64 2, .int .i64 5, .slice (some ⟨g1, 0, none⟩) 4 c1, .slice (some ⟨g2, 0, none⟩) 4 c2] 63)) := (Kp.refl w9).alloc _
  have hGd := lgood_any ⟨4, 2, 5, [0, 0, 0, 0], [0, 0, 0, 0]⟩ (.slice (some ⟨g1, 0, none⟩) 4 c1) (.slice (some ⟨g2, 0, none⟩) 4 c2) _ (tw.n1.kept kA) (tw.n2.kept kA)
  rw [← A.out.k4, A.out.g4, A.out.k4] at hGd
  have e1' := kA.held e1
  have LA : Hid (Lc (w9.alloc (.cells #[.int .i64 4, .int .i64 2, .int .i64 5, .slice (some ⟨g1, 0, none⟩) 4 c1, .slice (some ⟨g2, 0, none⟩) 4 c2] 63)) w9.heap.size 4 2 5 (.slice (some ⟨g1, 0, none⟩) 4 c1) (.slice (some ⟨g2, 0, none⟩) 4 c2)) := Lc.new w9 _ _ _ _ _ _
  unfold lV at hGd
  dsimp only at hGd
  have hq1 : 4 ≤ c1 := q1
  clear hL2 tw cc1 cc2 k9 HX8
  have KA := hid kA
  clear kA
  go_wp2_with fail
  refine hGd.mono ?_; rintro e w10 ⟨rfl, k10⟩
  have e2 : w10.cell? ⟨g1, 1, none⟩ = some (.int .i64 0) := k10.held e1'
  obtain ⟨d0, d1, d2, d3, d4⟩ := LA.out.kept k10
  have KF : Hid (Kp w w10) := K9.out.trans (KA.out.trans k10)
  clear hGd e1 e1' k10 hfe
  go_wp2
  go_ret
  exact ⟨rfl, KF.out⟩

end Go.Proofs.YtinpkfdmellleaaGreat
