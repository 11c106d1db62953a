/-
  The states of an array's members behind a loss of power in a change of its label, in plain terms (BoardCrash). No condition.
-/
import Derived.Test.YtinpkfdmellleaaGreatZBdCr2
namespace Go.Proofs.YtinpkfdmellleaaGreat
open Go.RowKit Plain
set_option linter.unusedVariables false

theorem wrE_21 {S : MS} (hd : S.dead = false) (a : Int) (s : ByteArray) : wrE S a s ≠ 21 := by
  have h : rcE S a = 0 ∨ rcE S a = 3 := by
    unfold rcE
    rw [hd]
    by_cases c : 0 ≤ a ∧ a < S.las.length
    · left; simp [c]
    · right; simp [c]
  unfold wrE
  rcases h with h | h
  · rw [if_pos h]
    by_cases c : s.size = 64
    · rw [if_pos c]; decide
    · rw [if_neg c]; decide
  · rw [if_neg (by rw [h]; decide), h]; decide
theorem wr_dead (S : MS) (a : Int) (s : ByteArray) : (wr S a s).dead = S.dead := by
  unfold wr
  split <;> rfl
theorem p1_whole {a : Int} {s : ByteArray} {C : BS} (pw : C.pw = none) (i : Nat) (hi : i < C.ms.length) (hd : ddB C i = false) : p1 a s (C, false) i = (⟨none, C.md + 1 + 1, C.g + 1 + 1, C.ms.set i (fl (wr (C.ms.getD i noM) a s))⟩, false) := by
  have hf : fdE C (i : Int) = 0 := if_pos ⟨by omega, by omega⟩
  have hb : bm C (i : Int) = C.ms.getD i noM := by unfold bm; rw [Int.toNat_natCast]
  have hdd : (C.ms.getD i noM).dead = false := hd
  have e1 : opE C (i : Int) (fun S => wrE S a s) ≠ 21 := by rw [op_E pw hf, hb]; exact wrE_21 hdd a s
  have e2 : opS C (i : Int) (fun S => wr S a s) = ⟨none, C.md + 1, C.g + 1, C.ms.set i (wr (C.ms.getD i noM) a s)⟩ := by rw [op_S pw hf, Int.toNat_natCast, hb]
  have hf2 : fdE ⟨none, C.md + 1, C.g + 1, C.ms.set i (wr (C.ms.getD i noM) a s)⟩ (i : Int) = 0 := if_pos ⟨by omega, by show _ < (((C.ms.set _ _).length : Nat) : Int); rw [List.length_set]; omega⟩
  have hb2 : bm ⟨none, C.md + 1, C.g + 1, C.ms.set i (wr (C.ms.getD i noM) a s)⟩ (i : Int) = wr (C.ms.getD i noM) a s := by
    unfold bm
    rw [Int.toNat_natCast]
    exact getD_set_eq hi _ _
  have e3 : opE (opS C (i : Int) (fun S => wr S a s)) (i : Int) flE = 0 := by
    rw [e2, op_E rfl hf2, hb2]
    unfold flE
    rw [wr_dead, hdd]; rfl
  have e4 : opS (opS C (i : Int) (fun S => wr S a s)) (i : Int) fl = ⟨none, C.md + 1 + 1, C.g + 1 + 1, C.ms.set i (fl (wr (C.ms.getD i noM) a s))⟩ := by
    rw [e2, op_S rfl hf2, hb2, Int.toNat_natCast]
    simp only [List.set_set]
  rw [p1_f rfl e1, e3, e4]
  rfl
theorem fl_row {S : MS} (h : S.dead = false) : (fl S).row = [] := by unfold fl; rw [h]; rfl
theorem pb_rows {a : Int} {s : ByteArray} {B : BS} : ∀ (l : List Nat) (P : Nat → Prop) (C : BS), C.pw = none → C.ms.length = B.ms.length → (∀ i, ddB C i = ddB B i) → (∀ i, i < B.ms.length → P i → (C.ms.getD i noM).row = []) → (∀ i ∈ l, i < B.ms.length ∧ ddB B i = false) → ∀ i, i < B.ms.length → (P i ∨ i ∈ l) → ((l.foldl (p1 a s) (C, false)).1.ms.getD i noM).row = []
  | [], P, C, _, _, _, h, _, i, hi, hp => h i hi (hp.resolve_right (by simp))
  | j :: l, P, C, pw, len, dd, h, hl, i, hi, hp => by
    obtain ⟨h1, h2⟩ := hl j (by simp)
    have hjC : j < C.ms.length := by rw [len]; exact h1
    have hdj : ddB C j = false := by rw [dd]; exact h2
    rw [List.foldl_cons, p1_whole pw j hjC hdj]
    refine pb_rows l (fun x => P x ∨ x = j) _ rfl (by show (C.ms.set _ _).length = _; rw [List.length_set]; exact len) (fun x => ?_) (fun x hx hpx => ?_) (fun x hx => hl x (by simp [hx])) i hi (hp.elim (fun q => .inl (.inl q)) (fun q => (List.mem_cons.1 q).elim (fun e => .inl (.inr e)) .inr))
    · show ((C.ms.set j _).getD x noM).dead = _
      rw [getD_setM hjC]
      split
      · rename_i e
        rw [e, ← dd j]
        show (fl _).dead = _
        have hw : (wr (C.ms.getD j noM) a s).dead = false := (wr_dead _ _ _).trans hdj
        unfold fl
        rw [hw]
        show false = ddB C j
        rw [hdj]
      · exact dd x
    · show ((C.ms.set j _).getD x noM).row = []
      rw [getD_setM hjC]
      split
      · exact fl_row ((wr_dead _ _ _).trans hdj)
      · rename_i e
        exact h x hx (hpx.resolve_right e)
/-- published with the power whole: nothing waits on any that lives. -/
theorem pub_ft {K : KS} {M : LB} (pw : K.b.pw = none) (dd : ∀ i, ddB (puK K M).b i = ddB K.b i) (len : (puK K M).b.ms.length = K.b.ms.length) (gd : Gd (puK K M).b) : Ft (puK K M).b := fun i hi hd => by
  have hi2 : i < K.b.ms.length := by rw [← len]; exact hi
  have hd2 : ddB K.b i = false := by rw [← dd i]; exact hd
  have e : ((puK K M).b.ms.getD i noM).row = [] := pb_rows (a := (K.l.ep + 1) % 2) (s := puS (nx K M)) (B := K.b) (lvL 0 K.b.ms) (fun _ => False) K.b pw rfl (fun _ => rfl) (fun _ _ h => h.elim) (fun j hj => (lv_iff K.b j).1 hj) i hi2 (.inr ((lv_iff K.b i).2 ⟨hi2, hd2⟩))
  have hr := (gd.rt ((puK K M).b.ms.getD i noM) (by
    rw [List.getD_eq_getElem?_getD, List.getElem?_eq_getElem hi]
    exact List.getElem_mem hi)).live hd
  rw [e] at hr
  exact ⟨e, hr.symm⟩

/-- how an array stands between calls: its label on all that live, nothing waits, and who is dead is Failed. -/
structure Bq (K : KS) (z : Nat) : Prop where
  bo : Bo K.b K.l z
  ft : Ft K.b
  dk : ∀ i, i < K.b.ms.length → ddB K.b i = true → K.l.sts.getD i 0 = 1 ∧ K.l.mks.getD i 0 = 0
theorem Bo.bh {B : BS} {L : LB} {z : Nat} (h : Bo B L z) (ft : Ft B) (hl : ∃ i, i < B.ms.length ∧ ddB B i = false) : Bh B L z :=
  ⟨h.len, h.ev, ft, h.zs, h.good, fun i hi hd => .inl (h.cur i hi hd), h.old, hl.imp fun i hi => ⟨hi.1, hi.2, h.cur i hi.1 hi.2⟩⟩
theorem Bh.cut {B : BS} {L : LB} {z : Nat} (h : Bh B L z) (n : Int) : Bh (ctB B n) L z := ⟨h.len, h.ev, h.ft, h.zs, h.good, h.cur, h.old, h.one⟩
theorem Bh.fail {B : BS} {L : LB} {z : Nat} (h : Bh B L z) (m : Nat) (hm : m < B.ms.length) (ho : ∃ i, i < B.ms.length ∧ i ≠ m ∧ ddB B i = false ∧ sec_ B i (L.ep % 2).toNat = ptS L) : Bh (put B (m : Int) (fa (bm B (m : Int)))) L z := by
  have hl := put_len B (m : Int) (fa (bm B (m : Int)))
  have hat := put_at hm (fa (bm B (m : Int)))
  have hbm : bm B (m : Int) = B.ms.getD m noM := by unfold bm; rw [Int.toNat_natCast]
  have hdd : ∀ i, ddB (put B (m : Int) (fa (bm B (m : Int)))) i = false → i ≠ m ∧ ddB B i = false := fun i hi => by
    have e : ((put B (m : Int) (fa (bm B (m : Int)))).ms.getD i noM).dead = false := hi
    rw [hat i] at e
    split at e
    · cases e
    · rename_i h1; exact ⟨h1, e⟩
  have hsame : ∀ i, i ≠ m → (put B (m : Int) (fa (bm B (m : Int)))).ms.getD i noM = B.ms.getD i noM := fun i hi => by rw [hat i, if_neg hi]
  have hsec : ∀ i j, i ≠ m → sec_ (put B (m : Int) (fa (bm B (m : Int)))) i j = sec_ B i j := fun i j hi => by unfold sec_; rw [hsame i hi]
  refine ⟨by rw [hl]; exact h.len, fun i hi => ?_, fun i hi hd => ?_, h.zs, h.good, fun i hi hd => ?_, fun i hi hd => ?_, ?_⟩
  · rw [hat i]
    split
    · rw [hbm]
      exact h.ev m hm
    · exact h.ev i (by rw [← hl]; exact hi)
  · obtain ⟨h1, h2⟩ := hdd i hd
    rw [hsame i h1]
    exact h.ft i (by rw [← hl]; exact hi) h2
  · obtain ⟨h1, h2⟩ := hdd i hd
    rw [hsec i _ h1, hsec i _ h1]
    exact h.cur i (by rw [← hl]; exact hi) h2
  · obtain ⟨h1, h2⟩ := hdd i hd
    rw [hsec i _ h1]
    exact h.old i (by rw [← hl]; exact hi) h2
  · obtain ⟨i, h1, h2, h3, h4⟩ := ho
    refine ⟨i, by rw [hl]; exact h1, ?_, by rw [hsec i _ h2]; exact h4⟩
    show ((put B (m : Int) (fa (bm B (m : Int)))).ms.getD i noM).dead = false
    rw [hsame i h2]; exact h3
theorem rep_z (n j : Nat) : gtE ((List.replicate n z64).getD j noS) ≠ 0 := by
  by_cases h : j < n
  · have e : (List.replicate n z64).getD j noS = z64 := by simp [List.getD_eq_getElem?_getD, h]
    rw [e]; exact gt_z64
  · have e : (List.replicate n z64).getD j noS = noS := by
      rw [List.getD_eq_getElem?_getD, List.getElem?_eq_none (by simp; omega)]; rfl
    rw [e]
    decide
theorem Bh.rep {B : BS} {L : LB} {z : Nat} (h : Bh B L z) (m : Nat) (hm : m < B.ms.length) (ho : ∃ i, i < B.ms.length ∧ i ≠ m ∧ ddB B i = false ∧ sec_ B i (L.ep % 2).toNat = ptS L) : Bh (put B (m : Int) (rp (bm B (m : Int)))) L z := by
  have hl := put_len B (m : Int) (rp (bm B (m : Int)))
  have hat := put_at hm (rp (bm B (m : Int)))
  have hbm : bm B (m : Int) = B.ms.getD m noM := by unfold bm; rw [Int.toNat_natCast]
  have hsame : ∀ i, i ≠ m → (put B (m : Int) (rp (bm B (m : Int)))).ms.getD i noM = B.ms.getD i noM := fun i hi => by rw [hat i, if_neg hi]
  have hm1 : (put B (m : Int) (rp (bm B (m : Int)))).ms.getD m noM = rp (bm B (m : Int)) := by rw [hat m, if_pos rfl]
  have hdd : ∀ i, i ≠ m → ddB (put B (m : Int) (rp (bm B (m : Int)))) i = ddB B i := fun i hi => by unfold ddB; rw [hsame i hi]
  have hsec : ∀ i j, i ≠ m → sec_ (put B (m : Int) (rp (bm B (m : Int)))) i j = sec_ B i j := fun i j hi => by unfold sec_; rw [hsame i hi]
  have hsm : ∀ j, gtE (sec_ (put B (m : Int) (rp (bm B (m : Int)))) m j) ≠ 0 := fun j => by
    unfold sec_
    rw [hm1]
    exact rep_z _ _
  refine ⟨by rw [hl]; exact h.len, fun i hi => ?_, fun i hi hd => ?_, h.zs, h.good, fun i hi hd => ?_, fun i hi hd hg => ?_, ?_⟩
  · rw [hat i]
    split
    · rw [hbm]
      show (List.replicate _ z64).length = z ∧ (List.replicate _ z64).length = z
      rw [List.length_replicate]
      exact ⟨(h.ev m hm).1, (h.ev m hm).1⟩
    · exact h.ev i (by rw [← hl]; exact hi)
  · by_cases e : i = m
    · subst e; rw [hm1]; exact ⟨rfl, rfl⟩
    · rw [hsame i e]
      exact h.ft i (by rw [← hl]; exact hi) (by rw [← hdd i e]; exact hd)
  · by_cases e : i = m
    · subst e; exact .inr ⟨hsm _, hsm _⟩
    · rw [hsec i _ e, hsec i _ e]
      exact h.cur i (by rw [← hl]; exact hi) (by rw [← hdd i e]; exact hd)
  · by_cases e : i = m
    · subst e; exact absurd hg (hsm _)
    · rw [hsec i _ e] at hg ⊢
      exact h.old i (by rw [← hl]; exact hi) (by rw [← hdd i e]; exact hd) hg
  · obtain ⟨i, h1, h2, h3, h4⟩ := ho
    exact ⟨i, by rw [hl]; exact h1, by rw [hdd i h2]; exact h3, by rw [hsec i _ h2]; exact h4⟩

end Go.Proofs.YtinpkfdmellleaaGreat
