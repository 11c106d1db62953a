/-
  A label that is published while the power fails, and a crash behind it, in plain terms: what stands on the members then, and what Open finds. No condition.
-/
import Derived.Test.YtinpkfdmellleaaGreatZBo
namespace Go.Proofs.YtinpkfdmellleaaGreat
open Go.RowKit Plain
set_option linter.unusedVariables false

/-- all that live have nothing that waits. -/
def Ft (B : BS) : Prop := ∀ i, i < B.ms.length → ddB B i = false → (B.ms.getD i noM).row = [] ∧ (B.ms.getD i noM).las = (B.ms.getD i noM).now
/-- one member behind a write of one sector that may be half done: untouched, written, done. -/
def Dn (a : Nat) (s : ByteArray) (S T : MS) : Prop := T.dead = S.dead ∧ T.row = [] ∧ T.las = S.now.set a s ∧ T.now = S.now.set a s
def Hf (a : Nat) (s : ByteArray) (S T : MS) : Prop := T = S ∨ (T.dead = S.dead ∧ T.row = [(a, s)] ∧ T.las = S.now ∧ T.now = S.now.set a s) ∨ Dn a s S T
structure PcI (a : Nat) (s : ByteArray) (B : BS) (P : Nat → Prop) (r : BS × Bool) : Prop where
  len : r.1.ms.length = B.ms.length
  h : ∀ i, i < B.ms.length → Hf a s (B.ms.getD i noM) (r.1.ms.getD i noM)
  de : ∀ i, i < B.ms.length → ddB B i = true → r.1.ms.getD i noM = B.ms.getD i noM
  dn : r.2 = false → ∀ i, i < B.ms.length → P i → Dn a s (B.ms.getD i noM) (r.1.ms.getD i noM)
  un : r.2 = false → ∀ i, i < B.ms.length → ¬ P i → r.1.ms.getD i noM = B.ms.getD i noM
  g : r.1.md ≥ B.md
theorem getD_setM {L : List MS} {i : Nat} (hi : i < L.length) (S : MS) (j : Nat) : (L.set i S).getD j noM = if j = i then S else L.getD j noM := by
  by_cases e : j = i
  · subst e; rw [if_pos rfl]; exact getD_set_eq hi _ _
  · rw [if_neg e]; exact getD_set_ne (fun h => e h.symm) _ _
theorem Hf.dd {a : Nat} {s : ByteArray} {S T : MS} (h : Hf a s S T) : T.dead = S.dead := by
  rcases h with rfl | h | h
  · rfl
  · exact h.1
  · exact h.1

theorem p1_half {a : Nat} {s : ByteArray} {B : BS} {z : Nat} {P : Nat → Prop} {r : BS × Bool} (h : PcI a s B P r) (ev : Ev B z) (ft : Ft B) (hs : s.size = 64) (ha : a < z) (i : Nat) (hi : i < B.ms.length) (hd : ddB B i = false) (hP : ¬ P i) : PcI a s B (fun j => P j ∨ j = i) (p1 a s r i) := by
  obtain ⟨C, fl_⟩ := r
  cases fl_ with
  | true =>
    rw [p1_stop rfl]
    exact ⟨h.len, h.h, h.de, (fun e => by cases e), (fun e => by cases e), h.g⟩
  | false =>
    have hiC : i < C.ms.length := by rw [h.len]; exact hi
    have hCi : C.ms.getD i noM = B.ms.getD i noM := h.un rfl i hi hP
    obtain ⟨f1, f2⟩ := ft i hi hd
    have hb : bm C (i : Int) = B.ms.getD i noM := by unfold bm; rw [Int.toNat_natCast]; exact hCi
    have hfd : fdE C (i : Int) = 0 := if_pos ⟨by omega, by omega⟩
    have hmo : MO (B.ms.getD i noM) z := ⟨hd, ev i hi⟩
    have w1 := wr_S hmo (a := (a : Int)) (by omega) (by omega) hs
    obtain ⟨S, eS⟩ : ∃ S, S = B.ms.getD i noM := ⟨_, rfl⟩
    rw [← eS] at hb w1 f1 f2 hmo
    by_cases p0 : C.pw = some 0
    · have st : stE C (i : Int) = 21 := by unfold stE; rw [if_pos hfd, if_pos p0]
      have e1 : opE C (i : Int) (fun S => wrE S a s) = 21 := by unfold opE; rw [if_neg (by rw [st]; decide), st]
      have e2 : opS C (i : Int) (fun S => wr S a s) = ⟨C.pw, C.md, C.g + 1, C.ms⟩ := by unfold opS stS; rw [if_neg (by rw [st]; decide), if_neg (by rw [st]; decide)]
      rw [p1_w rfl e1, e2]
      exact ⟨h.len, h.h, h.de, (fun e => by cases e), (fun e => by cases e), h.g⟩
    · have st : stE C (i : Int) = 0 := by unfold stE; rw [if_pos hfd, if_neg p0]
      have e1 : opE C (i : Int) (fun S => wrE S a s) = 0 := by unfold opE; rw [if_pos st, hb]; exact w1.1
      obtain ⟨C1, eC1⟩ : ∃ C1 : BS, C1 = ⟨C.pw.map (· - 1), C.md + 1, C.g + 1, C.ms.set i (wr S a s)⟩ := ⟨_, rfl⟩
      have e2 : opS C (i : Int) (fun S => wr S a s) = C1 := by
        unfold opS stS
        rw [if_pos st, if_pos st, hb, eC1]
        unfold put
        rw [Int.toNat_natCast]
      have hl1 : C1.ms.length = B.ms.length := by rw [eC1]; show (C.ms.set _ _).length = _; rw [List.length_set]; exact h.len
      have h1 : ∀ j, C1.ms.getD j noM = if j = i then wr S a s else C.ms.getD j noM := fun j => by rw [eC1]; exact getD_setM hiC _ j
      have hb1 : bm C1 (i : Int) = wr S a s := by unfold bm; rw [Int.toNat_natCast, h1, if_pos rfl]
      have hfd1 : fdE C1 (i : Int) = 0 := if_pos ⟨by omega, by rw [hl1]; omega⟩
      have hm1 : C1.md ≥ B.md := by rw [eC1]; have hg0 : C.md ≥ B.md := h.g; show C.md + 1 ≥ B.md; omega
      have hW : wr S a s = ⟨S.now.set a s, S.las, [(a, s)], S.dead, up S.c 1⟩ := by rw [w1.2, f1, Int.toNat_natCast]; rfl
      by_cases p1_ : C1.pw = some 0
      · have st1 : stE C1 (i : Int) = 21 := by unfold stE; rw [if_pos hfd1, if_pos p1_]
        have e3 : opE C1 (i : Int) flE = 21 := by unfold opE; rw [if_neg (by rw [st1]; decide), st1]
        have e4 : opS C1 (i : Int) fl = ⟨C1.pw, C1.md, C1.g + 1, C1.ms⟩ := by unfold opS stS; rw [if_neg (by rw [st1]; decide), if_neg (by rw [st1]; decide)]
        rw [p1_f rfl (by rw [e1]; decide), e2, e3, e4]
        refine ⟨hl1, fun j hj => ?_, fun j hj hdj => ?_, (fun e => by cases e), (fun e => by cases e), hm1⟩
        · show Hf a s _ (C1.ms.getD j noM)
          rw [h1]
          split
          · rename_i e
            subst e
            rw [hW, ← eS]
            exact .inr (.inl ⟨rfl, rfl, f2, rfl⟩)
          · exact h.h j hj
        · show C1.ms.getD j noM = _
          rw [h1, if_neg (fun e => by rw [e, hd] at hdj; cases hdj)]
          exact h.de j hj hdj
      · have st1 : stE C1 (i : Int) = 0 := by unfold stE; rw [if_pos hfd1, if_neg p1_]
        have hmw : MO (wr S a s) z := hmo.wr _ _
        have e3 : opE C1 (i : Int) flE = 0 := by unfold opE; rw [if_pos st1, hb1]; exact fl_E hmw
        obtain ⟨C2, eC2⟩ : ∃ C2 : BS, C2 = ⟨C1.pw.map (· - 1), C1.md + 1, C1.g + 1, C1.ms.set i (fl (wr S a s))⟩ := ⟨_, rfl⟩
        have e4 : opS C1 (i : Int) fl = C2 := by
          unfold opS stS
          rw [if_pos st1, if_pos st1, hb1, eC2]
          unfold put
          rw [Int.toNat_natCast]
        have hl2 : C2.ms.length = B.ms.length := by rw [eC2]; show (C1.ms.set _ _).length = _; rw [List.length_set]; exact hl1
        have h2 : ∀ j, C2.ms.getD j noM = if j = i then fl (wr S a s) else C.ms.getD j noM := fun j => by
          rw [eC2]
          show (C1.ms.set i _).getD j noM = _
          rw [getD_setM (by rw [hl1]; exact hi)]
          split
          · rfl
          · rename_i e; rw [h1, if_neg e]
        have hF : fl (wr S a s) = ⟨S.now.set a s, S.now.set a s, [], S.dead, up (up S.c 1) 2⟩ := by
          unfold fl
          rw [hW]
          dsimp only
          rw [if_neg (by rw [hmo.1]; simp), ← f2]
          rfl
        have hDn : Dn a s S (fl (wr S a s)) := by rw [hF]; exact ⟨rfl, rfl, rfl, rfl⟩
        rw [p1_f rfl (by rw [e1]; decide), e2, e3, e4]
        refine ⟨hl2, fun j hj => ?_, fun j hj hdj => ?_, fun _ j hj hPj => ?_, fun _ j hj hPj => ?_, by rw [eC2]; show C1.md + 1 ≥ B.md; omega⟩
        · show Hf a s _ (C2.ms.getD j noM)
          rw [h2]
          split
          · rename_i e
            subst e
            rw [← eS]
            exact .inr (.inr hDn)
          · exact h.h j hj
        · show C2.ms.getD j noM = _
          rw [h2, if_neg (fun e => by rw [e, hd] at hdj; cases hdj)]
          exact h.de j hj hdj
        · show Dn a s _ (C2.ms.getD j noM)
          rw [h2]
          split
          · rename_i e
            subst e
            rw [← eS]
            exact hDn
          · rename_i e
            exact h.dn rfl j hj (hPj.resolve_right e)
        · show C2.ms.getD j noM = _
          rw [h2, if_neg (fun e => hPj (.inr e))]
          exact h.un rfl j hj (fun hh => hPj (.inl hh))

theorem pb_half {a : Nat} {s : ByteArray} {B : BS} {z : Nat} (ev : Ev B z) (ft : Ft B) (hs : s.size = 64) (ha : a < z) : ∀ (l : List Nat) (P : Nat → Prop) (r : BS × Bool), PcI a s B P r → l.Nodup → (∀ i ∈ l, i < B.ms.length ∧ ddB B i = false ∧ ¬ P i) → PcI a s B (fun j => P j ∨ j ∈ l) (l.foldl (p1 a s) r)
  | [], P, r, h, _, _ => ⟨h.len, h.h, h.de, fun e i hi hp => h.dn e i hi (hp.resolve_right (by simp)), fun e i hi hp => h.un e i hi (fun hh => hp (.inl hh)), h.g⟩
  | i :: l, P, r, h, hn, hl => by
    obtain ⟨h1, h2, h3⟩ := hl i (by simp)
    have hn' := List.nodup_cons.1 hn
    have k := p1_half h ev ft hs ha i h1 h2 h3
    have k2 := pb_half ev ft hs ha l _ _ k hn'.2 (fun j hj => ⟨(hl j (by simp [hj])).1, (hl j (by simp [hj])).2.1, fun hh => hh.elim (hl j (by simp [hj])).2.2 (fun e => hn'.1 (e ▸ hj))⟩)
    rw [List.foldl_cons]
    exact ⟨k2.len, k2.h, k2.de, fun e x hx hp => k2.dn e x hx (hp.elim (fun q => .inl (.inl q)) (fun q => (List.mem_cons.1 q).elim (fun e => .inl (.inr e)) .inr)), fun e x hx hp => k2.un e x hx (fun hh => hp (hh.elim (fun q => q.elim .inl (fun e => .inr (by simp [e]))) (fun q => .inr (by simp [q])))), k2.g⟩
theorem lvL_nodup : ∀ (L : List MS) (i : Nat), (lvL i L).Nodup ∧ ∀ x ∈ lvL i L, i ≤ x
  | [], i => ⟨List.nodup_nil, fun x h => by cases h⟩
  | S :: L, i => by
    obtain ⟨h1, h2⟩ := lvL_nodup L (i + 1)
    simp only [lvL]
    split
    · exact ⟨h1, fun x hx => by have := h2 x hx; omega⟩
    · refine ⟨List.nodup_cons.2 ⟨fun hm => by have := h2 i hm; omega, h1⟩, fun x hx => ?_⟩
      rcases List.mem_cons.1 hx with rfl | hx
      · exact Nat.le_refl _
      · have := h2 x hx; omega
theorem pb_all {a : Nat} {s : ByteArray} {B : BS} {z : Nat} (ev : Ev B z) (ft : Ft B) (hs : s.size = 64) (ha : a < z) : PcI a s B (fun j => j ∈ lvL 0 B.ms) (pbF a s (lvL 0 B.ms) B) := by
  have k := pb_half ev ft hs ha (lvL 0 B.ms) (fun _ => False) (B, false) ⟨rfl, fun i hi => .inl rfl, fun i hi _ => rfl, (fun _ i hi hp => hp.elim), (fun _ i hi _ => rfl), Nat.le_refl _⟩ (lvL_nodup _ _).1 (fun i hi => ⟨((lv_iff B i).1 hi).1, ((lv_iff B i).1 hi).2, fun h => h⟩)
  exact ⟨k.len, k.h, k.de, fun e i hi hp => k.dn e i hi (.inr hp), fun e i hi hp => k.un e i hi (fun hh => hp (hh.resolve_left (fun h => h))), k.g⟩

/-! ### a crash -/
theorem crM_atH (ks : Nat → List Nat) (n : Nat) : ∀ (L : List MS) (i j : Nat), j < L.length → i + j < n → (crM ks i n L).getD j noM = cr (L.getD j noM) (bit (ks (i + j)))
  | [], i, j, h, _ => by cases h
  | S :: L, i, 0, _, hn => by
    simp only [crM]
    rw [if_pos (by omega)]
    rfl
  | S :: L, i, j + 1, h, hn => by
    simp only [crM]
    have := crM_atH ks n L (i + 1) j (by simpa using h) (by omega)
    rw [show i + 1 + j = i + (j + 1) by omega] at this
    simpa using this
theorem crM_lenH (ks : Nat → List Nat) (n : Nat) : ∀ (L : List MS) (i : Nat), (crM ks i n L).length = L.length
  | [], i => rfl
  | S :: L, i => by simp only [crM, List.length_cons, crM_lenH ks n L (i + 1)]
/-- D stands where B stood, but for one sector of each, which is the new one or the old one. -/
structure Hv (B : BS) (a : Nat) (s : ByteArray) (z : Nat) (full : Bool) (D : BS) : Prop where
  pw : D.pw = none
  len : D.ms.length = B.ms.length
  ev : Ev D z
  ft : Ft D
  dd : ∀ i, i < B.ms.length → ddB D i = ddB B i
  at_ : ∀ i, i < B.ms.length → ddB B i = false → sec_ D i a = s ∨ sec_ D i a = sec_ B i a
  ot : ∀ i j, i < B.ms.length → ddB B i = false → j ≠ a → sec_ D i j = sec_ B i j
  all_ : full = true → ∀ i, i < B.ms.length → ddB B i = false → sec_ D i a = s
theorem hv_of {a : Nat} {s : ByteArray} {B : BS} {z : Nat} {P : Nat → Prop} {r : BS × Bool} (h : PcI a s B P r) (ev : Ev B z) (ft : Ft B) (ha : a < z) (hP : ∀ i, i < B.ms.length → ddB B i = false → P i) (ks : Nat → List Nat) : Hv B a s z (!r.2) (crB r.1 ks) := by
  have hat : ∀ i, i < B.ms.length → (crB r.1 ks).ms.getD i noM = cr (r.1.ms.getD i noM) (bit (ks i)) := fun i hi => by
    show (crM ks 0 r.1.ms.length r.1.ms).getD i noM = _
    have := crM_atH ks r.1.ms.length r.1.ms 0 i (by rw [h.len]; exact hi) (by rw [h.len]; omega)
    rw [Nat.zero_add] at this
    exact this
  have hl : (crB r.1 ks).ms.length = B.ms.length := by show (crM ks 0 _ _).length = _; rw [crM_lenH, h.len]
  -- what a crash makes of one that lives
  have key : ∀ i, i < B.ms.length → ddB B i = false → (cr (r.1.ms.getD i noM) (bit (ks i))).now = (B.ms.getD i noM).now ∨ (cr (r.1.ms.getD i noM) (bit (ks i))).now = (B.ms.getD i noM).now.set a s := fun i hi hd => by
    obtain ⟨f1, f2⟩ := ft i hi hd
    rcases h.h i hi with e | ⟨_, e1, e2, _⟩ | ⟨_, e1, e2, _⟩
    · left
      rw [e]
      unfold cr
      rw [f1, f2]
      rfl
    · unfold cr
      rw [e1, e2]
      simp only [tk]
      split
      · right; rfl
      · left; rfl
    · right
      unfold cr
      rw [e1, e2]
      rfl
  have hlen : ∀ i, i < B.ms.length → ddB B i = false → (B.ms.getD i noM).now.length = z := fun i hi _ => (ev i hi).2
  refine ⟨rfl, hl, fun i hi => ?_, fun i hi hd => ?_, fun i hi => ?_, fun i hi hd => ?_, fun i j hi hd hj => ?_, fun hf i hi hd => ?_⟩
  · have hi2 : i < B.ms.length := by rw [← hl]; exact hi
    rw [hat i hi2]
    have e : (r.1.ms.getD i noM).las.length = z := by
      rcases h.h i hi2 with e | ⟨_, _, e, _⟩ | ⟨_, _, e, _⟩
      · rw [e]; exact (ev i hi2).1
      · rw [e]; exact (ev i hi2).2
      · rw [e, List.length_set]; exact (ev i hi2).2
    unfold cr
    dsimp only
    rw [pl_len]
    exact ⟨e, e⟩
  · have hi2 : i < B.ms.length := by rw [← hl]; exact hi
    rw [hat i hi2]
    exact ⟨rfl, rfl⟩
  · show ((crB r.1 ks).ms.getD i noM).dead = _
    rw [hat i hi]
    exact (h.h i hi).dd
  · show ((crB r.1 ks).ms.getD i noM).now.getD a noS = s ∨ ((crB r.1 ks).ms.getD i noM).now.getD a noS = _
    rw [hat i hi]
    rcases key i hi hd with e | e
    · right; rw [e]; rfl
    · left; rw [e]; exact getD_set_eq (by rw [hlen i hi hd]; exact ha) _ _
  · show ((crB r.1 ks).ms.getD i noM).now.getD j noS = _
    rw [hat i hi]
    rcases key i hi hd with e | e
    · rw [e]; rfl
    · rw [e]; exact getD_set_ne (fun h => hj h.symm) _ _
  · show ((crB r.1 ks).ms.getD i noM).now.getD a noS = s
    rw [hat i hi]
    have hf2 : r.2 = false := by simpa using hf
    obtain ⟨_, e1, e2, _⟩ := h.dn hf2 i hi (hP i hi hd)
    unfold cr
    dsimp only
    rw [e1, e2]
    show ((B.ms.getD i noM).now.set a s).getD a noS = s
    exact getD_set_eq (by rw [hlen i hi hd]; exact ha) _ _

end Go.Proofs.YtinpkfdmellleaaGreat
