/-
  The document's turn (layer 23): its state in memory, and its calls. Conditions: that it lies in memory.
-/
import Derived.Test.YtncdidklgpmefaaDoorQuSec
import Derived.Deep.RegionLaw
import Derived.Deep.CutBlock
import Derived.Deep.DeepCutAuto
import Derived.Deep.RegionHeld3
namespace Go.Proofs.YtncdidklgpmefaaDoor
open Go.RowKit Plain
set_option linter.unusedVariables false

/-- a key: itself, is it dear, pinned, when did it come to its row. -/
structure RK where
  n : Int
  d : Bool
  p : Bool
  w : Int
def rk0 : RK := ⟨0, false, false, 0⟩
structure RS where
  M : Int
  Z : Int
  L : List RK
  c : Int
/-- keys in order: the plain ones PL, the dear ones DL. -/
structure Sd (L PL DL : List RK) : Prop where
  pm : (PL ++ DL).Perm L
  fp : ∀ x ∈ PL, x.d = false
  fd : ∀ x ∈ DL, x.d = true
  sp : PL.Pairwise (fun x y => x.w < y.w)
  sd : DL.Pairwise (fun x y => x.w < y.w)
  nd : (L.map RK.n).Nodup
/-- the document's turn beside a turn. -/
structure Rl (S : TS) (R : RS) : Prop where
  M : R.M = S.M
  Z : R.Z = S.Z
  h : ∃ PL DL, Sd R.L PL DL ∧ PL.map RK.n = S.P ∧ DL.map RK.n = S.D
  cw : ∀ x ∈ R.L, x.w < R.c
  pk : ∀ x ∈ R.L, S.K x.n = x.p
theorem Rl.new (M Z : Int) : Rl (newT M Z) ⟨M, Z, [], 0⟩ := ⟨rfl, rfl, ⟨[], [], ⟨List.Perm.refl _, by simp, by simp, List.Pairwise.nil, List.Pairwise.nil, by simp⟩, rfl, rfl⟩, by simp, by simp⟩
theorem Rl.len {S : TS} {R : RS} (h : Rl S R) : R.L.length = S.P.length + S.D.length := by
  obtain ⟨PL, DL, q, e1, e2⟩ := h.h
  rw [← q.pm.length_eq, List.length_append, ← e1, ← e2, List.length_map, List.length_map]
theorem Rl.mem {S : TS} {R : RS} (h : Rl S R) (k : Int) : (∃ x ∈ R.L, x.n = k) ↔ k ∈ S.P ++ S.D := by
  obtain ⟨PL, DL, q, e1, e2⟩ := h.h
  rw [← e1, ← e2, ← List.map_append, List.mem_map]
  constructor
  · rintro ⟨x, hx, e⟩; exact ⟨x, q.pm.mem_iff.2 hx, e⟩
  · rintro ⟨x, hx, e⟩; exact ⟨x, q.pm.mem_iff.1 hx, e⟩
theorem Rl.dear {S : TS} {R : RS} (h : Rl S R) : (R.L.filter RK.d).length = S.D.length := by
  obtain ⟨PL, DL, q, e1, e2⟩ := h.h
  rw [← (q.pm.filter RK.d).length_eq, List.filter_append, List.filter_eq_nil_iff.2 (fun x hx => by simp [q.fp x hx]), List.filter_eq_self.2 (fun x hx => q.fd x hx), ← e2, List.length_map]
  rfl
/-- one key taken out. -/
theorem Sd.out {L PL DL A B : List RK} {y : RK} (h : Sd L PL DL) (e : L = A ++ y :: B) : ∃ PL' DL', Sd (A ++ B) PL' DL' ∧ PL'.map RK.n = (PL.map RK.n).erase y.n ∧ DL'.map RK.n = (DL.map RK.n).erase y.n := by
  have hL : L.Perm (y :: (A ++ B)) := by rw [e]; exact List.perm_middle
  have hnd : ((PL ++ DL).map RK.n).Nodup := (h.pm.map RK.n).nodup_iff.2 h.nd
  have hndAB : ((A ++ B).map RK.n).Nodup := by
    have := (hL.map RK.n).nodup_iff.1 h.nd
    rw [List.map_cons, List.nodup_cons] at this
    exact this.2
  rw [List.map_append, List.nodup_append] at hnd
  have hy : y ∈ PL ++ DL := h.pm.mem_iff.2 (by rw [e]; simp)
  rcases List.mem_append.1 hy with hp | hd
  · obtain ⟨P1, P2, rfl⟩ := List.append_of_mem hp
    have hn1 : y.n ∉ P1.map RK.n := fun hm => by
      have := hnd.1
      rw [List.map_append, List.nodup_append] at this
      exact this.2.2 _ hm y.n (by simp) rfl
    have hn2 : y.n ∉ DL.map RK.n := fun hm => hnd.2.2 y.n (by simp) y.n hm rfl
    refine ⟨P1 ++ P2, DL, ⟨?_, fun x hx => h.fp x ?_, h.fd, h.sp.sublist (List.Sublist.append_left (List.sublist_cons_self _ _) _), h.sd, hndAB⟩, ?_, ?_⟩
    · have h1 : ((P1 ++ y :: P2) ++ DL).Perm (y :: ((P1 ++ P2) ++ DL)) := by
        rw [List.append_assoc, List.cons_append, List.append_assoc]
        exact List.perm_middle
      exact ((h1.symm.trans h.pm).trans hL).cons_inv
    · rcases List.mem_append.1 hx with hx | hx
      · exact List.mem_append_left _ hx
      · exact List.mem_append_right _ (List.mem_cons_of_mem _ hx)
    · rw [List.map_append, List.map_append, List.map_cons, List.erase_append_right _ hn1, List.erase_cons_head]
    · rw [erase_out hn2]
  · obtain ⟨D1, D2, rfl⟩ := List.append_of_mem hd
    have hn1 : y.n ∉ D1.map RK.n := fun hm => by
      have := hnd.2.1
      rw [List.map_append, List.nodup_append] at this
      exact this.2.2 _ hm y.n (by simp) rfl
    have hn2 : y.n ∉ PL.map RK.n := fun hm => hnd.2.2 y.n hm y.n (by simp) rfl
    refine ⟨PL, D1 ++ D2, ⟨?_, h.fp, fun x hx => h.fd x ?_, h.sp, h.sd.sublist (List.Sublist.append_left (List.sublist_cons_self _ _) _), hndAB⟩, ?_, ?_⟩
    · have h1 : (PL ++ (D1 ++ y :: D2)).Perm (y :: (PL ++ (D1 ++ D2))) := by
        rw [← List.append_assoc, ← List.append_assoc]
        exact List.perm_middle
      exact ((h1.symm.trans h.pm).trans hL).cons_inv
    · rcases List.mem_append.1 hx with hx | hx
      · exact List.mem_append_left _ hx
      · exact List.mem_append_right _ (List.mem_cons_of_mem _ hx)
    · rw [erase_out hn2]
    · rw [List.map_append, List.map_append, List.map_cons, List.erase_append_right _ hn1, List.erase_cons_head]
theorem last_pw {l : List RK} {y : RK} (h : l.Pairwise (fun x y => x.w < y.w)) (hw : ∀ x ∈ l, x.w < y.w) : (l ++ [y]).Pairwise (fun x y => x.w < y.w) := by
  rw [List.pairwise_append]
  exact ⟨h, List.pairwise_singleton _ _, fun a ha b hb => by rw [List.mem_singleton.1 hb]; exact hw a ha⟩
theorem nd_in {A B : List RK} {y : RK} (h : ((A ++ B).map RK.n).Nodup) (hy : y.n ∉ (A ++ B).map RK.n) : ((A ++ y :: B).map RK.n).Nodup := by
  have : (A ++ y :: B).Perm (y :: (A ++ B)) := List.perm_middle
  rw [(this.map RK.n).nodup_iff, List.map_cons, List.nodup_cons]
  exact ⟨hy, h⟩
/-- one laid behind the dear ones. -/
theorem Sd.inD {A B PL DL : List RK} {y : RK} (h : Sd (A ++ B) PL DL) (hy : y.n ∉ (A ++ B).map RK.n) (hd : y.d = true) (hw : ∀ x ∈ A ++ B, x.w < y.w) : Sd (A ++ y :: B) PL (DL ++ [y]) := by
  refine ⟨?_, h.fp, fun x hx => ?_, h.sp, last_pw h.sd (fun x hx => hw x (h.pm.mem_iff.1 (List.mem_append_right _ hx))), nd_in h.nd hy⟩
  · have h1 : (PL ++ (DL ++ [y])).Perm (y :: (PL ++ DL)) := by
      rw [← List.append_assoc]
      exact List.perm_append_singleton _ _
    exact h1.trans ((h.pm.cons y).trans List.perm_middle.symm)
  · rcases List.mem_append.1 hx with hx | hx
    · exact h.fd x hx
    · rw [List.mem_singleton.1 hx]; exact hd
/-- one laid behind the plain ones. -/
theorem Sd.inP {A B PL DL : List RK} {y : RK} (h : Sd (A ++ B) PL DL) (hy : y.n ∉ (A ++ B).map RK.n) (hd : y.d = false) (hw : ∀ x ∈ A ++ B, x.w < y.w) : Sd (A ++ y :: B) (PL ++ [y]) DL := by
  refine ⟨?_, fun x hx => ?_, h.fd, last_pw h.sp (fun x hx => hw x (h.pm.mem_iff.1 (List.mem_append_left _ hx))), h.sd, nd_in h.nd hy⟩
  · have h1 : ((PL ++ [y]) ++ DL).Perm (y :: (PL ++ DL)) := by
      rw [List.append_assoc]
      exact List.perm_middle
    exact h1.trans ((h.pm.cons y).trans List.perm_middle.symm)
  · rcases List.mem_append.1 hx with hx | hx
    · exact h.fp x hx
    · rw [List.mem_singleton.1 hx]; exact hd
theorem Sd.off {L PL DL A B : List RK} {y : RK} (h : Sd L PL DL) (e : L = A ++ y :: B) : y.n ∉ (A ++ B).map RK.n := by
  have h1 : L.Perm (y :: (A ++ B)) := by rw [e]; exact List.perm_middle
  have := (h1.map RK.n).nodup_iff.1 h.nd
  rw [List.map_cons, List.nodup_cons] at this
  exact this.1
theorem mid_in {A B : List RK} {x y : RK} (h : x ∈ A ++ B) : x ∈ A ++ y :: B := by
  rcases List.mem_append.1 h with h | h
  · exact List.mem_append_left _ h
  · exact List.mem_append_right _ (List.mem_cons_of_mem _ h)
theorem mid_or {A B : List RK} {x y : RK} (h : x ∈ A ++ y :: B) : x = y ∨ x ∈ A ++ B := by
  rcases List.mem_append.1 h with h | h
  · exact .inr (List.mem_append_left _ h)
  · rcases List.mem_cons.1 h with h | h
    · exact .inl h
    · exact .inr (List.mem_append_right _ h)
/-! ### the calls -/
theorem Rl.add {S : TS} {R : RS} (h : Rl S R) (hg : Gd S) {k : Int} (he : adE S k = 0) : Rl (adS S k) { R with L := R.L ++ [⟨k, false, false, R.c⟩], c := R.c + 1 } := by
  rw [ad_ok he]
  have hk := (ad_iff.1 he).1
  have hno : k ∉ R.L.map RK.n := fun hm => by
    obtain ⟨x, hx, e⟩ := List.mem_map.1 hm
    exact hk ((h.mem k).1 ⟨x, hx, e⟩)
  obtain ⟨PL, DL, q, e1, e2⟩ := h.h
  refine ⟨h.M, h.Z, ⟨_, _, Sd.inP (A := R.L) (B := []) (y := ⟨k, false, false, R.c⟩) (by rw [List.append_nil]; exact q) (by rw [List.append_nil]; exact hno) rfl (by rw [List.append_nil]; exact h.cw), by rw [List.map_append, e1]; rfl, e2⟩, fun x hx => ?_, fun x hx => ?_⟩
  · rcases List.mem_append.1 hx with hx | hx
    · have := h.cw x hx; show x.w < R.c + 1; omega
    · rw [List.mem_singleton.1 hx]; show R.c < R.c + 1; omega
  · rcases List.mem_append.1 hx with hx | hx
    · exact h.pk x hx
    · rw [List.mem_singleton.1 hx]
      show S.K k = false
      cases hK : S.K k with
      | false => rfl
      | true => exact absurd (hg.kin k hK) hk
theorem Rl.drop {S : TS} {R : RS} (h : Rl S R) {A B : List RK} {y : RK} (e : R.L = A ++ y :: B) : Rl (drS S y.n) { R with L := A ++ B } := by
  have hin : inT S y.n = true := in_iff.2 ((h.mem y.n).1 ⟨y, by rw [e]; simp, rfl⟩)
  obtain ⟨PL, DL, q, e1, e2⟩ := h.h
  obtain ⟨PL', DL', q', f1, f2⟩ := q.out e
  have hoff := q.off e
  unfold drS
  rw [if_pos hin]
  refine ⟨h.M, h.Z, ⟨PL', DL', q', by rw [f1, e1]; rfl, by rw [f2, e2]; rfl⟩, fun x hx => h.cw x (by rw [e]; exact mid_in hx), fun x hx => ?_⟩
  show setK S.K y.n false x.n = x.p
  unfold setK
  rw [if_neg (fun e3 => hoff (List.mem_map.2 ⟨x, hx, e3⟩))]
  exact h.pk x (by rw [e]; exact mid_in hx)
/-- a key becomes the last of the dear ones. -/
theorem Rl.dc {S : TS} {R : RS} (h : Rl S R) {A B : List RK} {y : RK} (e : R.L = A ++ y :: B) : Rl (dcS (tkS S y.n) y.n) { R with L := A ++ { y with d := true, w := R.c } :: B, c := R.c + 1 } := by
  obtain ⟨PL, DL, q, e1, e2⟩ := h.h
  obtain ⟨PL', DL', q', f1, f2⟩ := q.out e
  have hoff := q.off e
  refine ⟨h.M, h.Z, ⟨PL', DL' ++ [_], q'.inD (y := { y with d := true, w := R.c }) hoff rfl (fun x hx => h.cw x (by rw [e]; exact mid_in hx)), by rw [f1, e1]; rfl, by rw [List.map_append, f2, e2]; rfl⟩, fun x hx => ?_, fun x hx => ?_⟩
  · rcases mid_or hx with rfl | hx
    · show R.c < R.c + 1; omega
    · have := h.cw x (by rw [e]; exact mid_in hx); show x.w < R.c + 1; omega
  · rcases mid_or hx with rfl | hx
    · exact h.pk y (by rw [e]; simp)
    · exact h.pk x (by rw [e]; exact mid_in hx)
/-- the first of the dear ones becomes the last of the plain ones. -/
theorem Rl.bk {S : TS} {R : RS} (h : Rl S R) {A B : List RK} {y : RK} (e : R.L = A ++ y :: B) {r : List Int} (hD : S.D = y.n :: r) (hZ : S.Z < (S.D.length : Int)) : Rl (bkS S) { R with L := A ++ { y with d := false, w := R.c } :: B, c := R.c + 1 } := by
  obtain ⟨PL, DL, q, e1, e2⟩ := h.h
  have hnd : (S.P ++ S.D).Nodup := by
    rw [← e1, ← e2, ← List.map_append]
    exact (q.pm.map RK.n).nodup_iff.2 q.nd
  have hoff := q.off e
  obtain ⟨PL', DL', q', f1, f2⟩ := q.out e
  have hyP : y.n ∉ S.P := fun hp => (List.nodup_append.1 hnd).2.2 _ hp y.n (by rw [hD]; simp) rfl
  have hb : bkS S = { S with P := S.P ++ [y.n], D := r } := by
    unfold bkS
    rw [hD]
    show (if S.Z < ((y.n :: r).length : Int) then _ else _) = _
    rw [if_pos (by rw [← hD]; exact hZ)]
  rw [hb]
  refine ⟨h.M, h.Z, ⟨PL' ++ [_], DL', q'.inP (y := { y with d := false, w := R.c }) hoff rfl (fun x hx => h.cw x (by rw [e]; exact mid_in hx)), ?_, ?_⟩, fun x hx => ?_, fun x hx => ?_⟩
  · rw [List.map_append, f1, e1, erase_out hyP]; rfl
  · rw [f2, e2, hD, List.erase_cons_head]
  · rcases mid_or hx with rfl | hx
    · show R.c < R.c + 1; omega
    · have := h.cw x (by rw [e]; exact mid_in hx); show x.w < R.c + 1; omega
  · rcases mid_or hx with rfl | hx
    · exact h.pk y (by rw [e]; simp)
    · exact h.pk x (by rw [e]; exact mid_in hx)
def pinF (k : Int) (on : Bool) (x : RK) : RK := if x.n = k then { x with p := on } else x
theorem pinF_same (k : Int) (on : Bool) (x : RK) : (pinF k on x).n = x.n ∧ (pinF k on x).d = x.d ∧ (pinF k on x).w = x.w := by
  unfold pinF
  split <;> exact ⟨rfl, rfl, rfl⟩
theorem pin_map {A B : List RK} {y : RK} {on : Bool} (h : ∀ x ∈ A ++ B, x.n ≠ y.n) : (A ++ y :: B).map (pinF y.n on) = A ++ { y with p := on } :: B := by
  rw [List.map_append, List.map_cons]
  have h1 : A.map (pinF y.n on) = A := by
    refine (List.map_congr_left (fun x hx => ?_)).trans (List.map_id A)
    unfold pinF; rw [if_neg (h x (List.mem_append_left _ hx))]; rfl
  have h2 : B.map (pinF y.n on) = B := by
    refine (List.map_congr_left (fun x hx => ?_)).trans (List.map_id B)
    unfold pinF; rw [if_neg (h x (List.mem_append_right _ hx))]; rfl
  rw [h1, h2]
  unfold pinF
  rw [if_pos rfl]
theorem Rl.pin {S : TS} {R : RS} (h : Rl S R) {A B : List RK} {y : RK} (e : R.L = A ++ y :: B) (on : Bool) : Rl (pnS S y.n on) { R with L := A ++ { y with p := on } :: B } := by
  have hin : inT S y.n = true := in_iff.2 ((h.mem y.n).1 ⟨y, by rw [e]; simp, rfl⟩)
  obtain ⟨PL, DL, q, e1, e2⟩ := h.h
  have hoff := q.off e
  have hL : A ++ { y with p := on } :: B = R.L.map (pinF y.n on) := by
    rw [e, pin_map (fun x hx e3 => hoff (List.mem_map.2 ⟨x, hx, e3⟩))]
  have hmn : ∀ l : List RK, (l.map (pinF y.n on)).map RK.n = l.map RK.n := fun l => by
    rw [List.map_map]
    exact List.map_congr_left (fun x _ => (pinF_same _ _ x).1)
  unfold pnS
  rw [if_pos hin, hL]
  refine ⟨h.M, h.Z, ⟨PL.map (pinF y.n on), DL.map (pinF y.n on), ⟨by rw [← List.map_append]; exact q.pm.map _, fun x hx => ?_, fun x hx => ?_, ?_, ?_, by rw [hmn]; exact q.nd⟩, by rw [hmn, e1], by rw [hmn, e2]⟩, fun x hx => ?_, fun x hx => ?_⟩
  · obtain ⟨z, hz, rfl⟩ := List.mem_map.1 hx
    rw [(pinF_same _ _ z).2.1]; exact q.fp z hz
  · obtain ⟨z, hz, rfl⟩ := List.mem_map.1 hx
    rw [(pinF_same _ _ z).2.1]; exact q.fd z hz
  · rw [List.pairwise_map]
    exact q.sp.imp (fun {a b} hab => by rw [(pinF_same _ _ a).2.2, (pinF_same _ _ b).2.2]; exact hab)
  · rw [List.pairwise_map]
    exact q.sd.imp (fun {a b} hab => by rw [(pinF_same _ _ a).2.2, (pinF_same _ _ b).2.2]; exact hab)
  · obtain ⟨z, hz, rfl⟩ := List.mem_map.1 hx
    rw [(pinF_same _ _ z).2.2]; exact h.cw z hz
  · obtain ⟨z, hz, rfl⟩ := List.mem_map.1 hx
    show setK S.K y.n on (pinF y.n on z).n = _
    rw [(pinF_same _ _ z).1]
    unfold setK pinF
    by_cases e3 : z.n = y.n
    · rw [if_pos e3, if_pos e3]
    · rw [if_neg e3, if_neg e3]; exact h.pk z hz
/-! ### the first of a row -/
def okB (dr fr : Bool) (x : RK) : Bool := (x.d == dr) && !(fr && x.p)
/-- the place of the first key of a row. -/
def Bst (L : List RK) (dr fr : Bool) (z : Int) : Prop := (z = -1 ∧ ∀ x ∈ L, okB dr fr x = false) ∨ ∃ i : Nat, z = i ∧ i < L.length ∧ okB dr fr (L.getD i rk0) = true ∧ ∀ y ∈ L, okB dr fr y = true → (L.getD i rk0).w ≤ y.w
theorem rk_at {l : List RK} {i : Nat} (h : i < l.length) : l = l.take i ++ l.getD i rk0 :: l.drop (i + 1) := by
  rw [List.getD_eq_getElem?_getD, List.getElem?_eq_getElem h, Option.getD_some, ← List.drop_eq_getElem_cons h, List.take_append_drop]
theorem rk_take {l : List RK} {i : Nat} (h : i < l.length) : l.take (i + 1) = l.take i ++ [l.getD i rk0] := by
  rw [List.take_add_one, List.getElem?_eq_getElem h, List.getD_eq_getElem?_getD, List.getElem?_eq_getElem h]
  rfl
theorem rk_mem {l : List RK} {i : Nat} (h : i < l.length) : l.getD i rk0 ∈ l := by
  rw [List.getD_eq_getElem?_getD, List.getElem?_eq_getElem h]
  exact List.getElem_mem h
def side (dr : Bool) (PL DL : List RK) : List RK := if dr then DL else PL
theorem side_mem {L PL DL : List RK} (h : Sd L PL DL) {dr fr : Bool} {x : RK} (hx : x ∈ L) (ho : okB dr fr x = true) : x ∈ side dr PL DL := by
  have hd : x.d = dr := by
    unfold okB at ho
    rw [Bool.and_eq_true] at ho
    exact eq_of_beq ho.1
  rcases List.mem_append.1 (h.pm.mem_iff.2 hx) with hp | hp
  · have := h.fp x hp
    rw [← hd, this]; exact hp
  · have := h.fd x hp
    rw [← hd, this]; exact hp
theorem side_in {L PL DL : List RK} (h : Sd L PL DL) {dr : Bool} {x : RK} (hx : x ∈ side dr PL DL) : x ∈ L ∧ x.d = dr := by
  unfold side at hx
  cases dr with
  | true => exact ⟨h.pm.mem_iff.1 (List.mem_append_right _ hx), h.fd x hx⟩
  | false => exact ⟨h.pm.mem_iff.1 (List.mem_append_left _ hx), h.fp x hx⟩
theorem side_pw {L PL DL : List RK} (h : Sd L PL DL) (dr : Bool) : (side dr PL DL).Pairwise (fun x y => x.w < y.w) := by
  cases dr with
  | true => exact h.sd
  | false => exact h.sp
theorem bst_get {L PL DL : List RK} (h : Sd L PL DL) {dr fr : Bool} {z : Int} (hz : Bst L dr fr z) {A B : List RK} {x : RK} (e : side dr PL DL = A ++ x :: B) (hA : ∀ a ∈ A, okB dr fr a = false) (hx : okB dr fr x = true) : ∃ i : Nat, z = i ∧ i < L.length ∧ L.getD i rk0 = x := by
  have hxL := (side_in h (dr := dr) (x := x) (by rw [e]; simp)).1
  rcases hz with ⟨_, hn⟩ | ⟨i, rfl, hi, ho, hm⟩
  · rw [hn x hxL] at hx; cases hx
  · refine ⟨i, rfl, hi, ?_⟩
    have hy := side_mem h (rk_mem hi) ho
    have hw := hm x hxL hx
    have hp := side_pw h dr
    rw [e] at hy hp
    rw [List.pairwise_append, List.pairwise_cons] at hp
    rcases List.mem_append.1 hy with hy | hy
    · rw [hA _ hy] at ho; cases ho
    · rcases List.mem_cons.1 hy with hy | hy
      · exact hy
      · have := hp.2.1.1 _ hy; omega
theorem bst_none {L PL DL : List RK} (h : Sd L PL DL) {dr fr : Bool} {z : Int} (hz : Bst L dr fr z) (hA : ∀ a ∈ side dr PL DL, okB dr fr a = false) : z = -1 := by
  rcases hz with ⟨h1, _⟩ | ⟨i, rfl, hi, ho, _⟩
  · exact h1
  · have := hA _ (side_mem h (rk_mem hi) ho)
    rw [this] at ho; cases ho
/-- what is found so far. -/
def Bsf (L : List RK) (dr fr : Bool) (j : Nat) (z : Int) : Prop := (z = -1 ∧ ∀ x ∈ L.take j, okB dr fr x = false) ∨ ∃ i : Nat, z = i ∧ i < j ∧ okB dr fr (L.getD i rk0) = true ∧ ∀ y ∈ L.take j, okB dr fr y = true → (L.getD i rk0).w ≤ y.w
theorem bsf_zero (L : List RK) (dr fr : Bool) : Bsf L dr fr 0 (-1) := .inl ⟨rfl, by simp⟩
theorem bsf_skip {L : List RK} {dr fr : Bool} {j : Nat} {z : Int} (h : Bsf L dr fr j z) (hj : j < L.length) (ho : okB dr fr (L.getD j rk0) = false) : Bsf L dr fr (j + 1) z := by
  rcases h with ⟨h1, h2⟩ | ⟨i, h1, h2, h3, h4⟩
  · refine .inl ⟨h1, fun x hx => ?_⟩
    rw [rk_take hj] at hx
    rcases List.mem_append.1 hx with hx | hx
    · exact h2 x hx
    · rw [List.mem_singleton.1 hx]; exact ho
  · refine .inr ⟨i, h1, by omega, h3, fun x hx hx2 => ?_⟩
    rw [rk_take hj] at hx
    rcases List.mem_append.1 hx with hx | hx
    · exact h4 x hx hx2
    · rw [List.mem_singleton.1 hx, ho] at hx2; cases hx2
theorem bsf_new {L : List RK} {dr fr : Bool} {j : Nat} {z : Int} (h : Bsf L dr fr j z) (hj : j < L.length) (ho : okB dr fr (L.getD j rk0) = true) (hw : z < 0 ∨ ∃ i : Nat, z = i ∧ (L.getD j rk0).w < (L.getD i rk0).w) : Bsf L dr fr (j + 1) j := by
  refine .inr ⟨j, rfl, by omega, ho, fun x hx hx2 => ?_⟩
  rw [rk_take hj] at hx
  rcases List.mem_append.1 hx with hx | hx
  · rcases h with ⟨h1, h2⟩ | ⟨i, h1, h2, h3, h4⟩
    · rw [h2 x hx] at hx2; cases hx2
    · rcases hw with hw | ⟨i', hw1, hw2⟩
      · omega
      · have hii : i = i' := by omega
        subst hii
        have := h4 x hx hx2
        omega
  · rw [List.mem_singleton.1 hx]; omega
theorem bsf_keep {L : List RK} {dr fr : Bool} {j : Nat} {z : Int} (h : Bsf L dr fr j z) (hj : j < L.length) {i : Nat} (hz : z = i) (hw : (L.getD i rk0).w ≤ (L.getD j rk0).w) : Bsf L dr fr (j + 1) z := by
  rcases h with ⟨h1, h2⟩ | ⟨i', h1, h2, h3, h4⟩
  · omega
  · have hii : i' = i := by omega
    subst hii
    refine .inr ⟨i', h1, by omega, h3, fun x hx hx2 => ?_⟩
    rw [rk_take hj] at hx
    rcases List.mem_append.1 hx with hx | hx
    · exact h4 x hx hx2
    · rw [List.mem_singleton.1 hx]; exact hw
theorem bsf_all {L : List RK} {dr fr : Bool} {z : Int} (h : Bsf L dr fr L.length z) : Bst L dr fr z := by
  unfold Bsf at h
  rw [List.take_length] at h
  exact h

end Go.Proofs.YtncdidklgpmefaaDoor

namespace Go.Proofs.YtncdidklgpmefaaDoor
open Go.RowKit Plain
set_option linter.unusedVariables false

def rc (x : RK) : List Value := [.int .i64 x.n, .bool x.d, .bool x.p, .int .i64 x.w]
def rv : List RK → List Value
  | [] => []
  | p :: l => rc p ++ rv l
theorem rv_len : ∀ l, (rv l).length = l.length * 4
  | [] => rfl
  | p :: l => by simp only [rv, rc, List.length_append, List.length_cons, rv_len l, List.length_nil]; omega
theorem rv_app : ∀ l m, rv (l ++ m) = rv l ++ rv m
  | [], m => rfl
  | p :: l, m => by simp only [rv, List.cons_append, rv_app l m, List.append_assoc]
theorem rv_at : ∀ (l : List RK) (i : Nat), i < l.length → (rv l)[i * 4]? = some (.int .i64 (l.getD i rk0).n) ∧ (rv l)[i * 4 + 1]? = some (.bool (l.getD i rk0).d) ∧ (rv l)[i * 4 + 2]? = some (.bool (l.getD i rk0).p) ∧ (rv l)[i * 4 + 3]? = some (.int .i64 (l.getD i rk0).w)
  | [], i, h => by simp at h
  | p :: l, 0, h => by simp [rv, rc]
  | p :: l, i + 1, h => by
    have := rv_at l i (by simpa using h)
    rw [show (i + 1) * 4 = i * 4 + 1 + 1 + 1 + 1 by omega]
    simpa [rv, rc] using this
theorem rv_one : ∀ (l : List RK), ∀ u ∈ rv l, u.oneCell' = true
  | [], u, h => by simp [rv] at h
  | p :: l, u, h => by
    simp only [rv, rc, List.mem_append, List.mem_cons, List.not_mem_nil, or_false] at h
    rcases h with (rfl | rfl | rfl | rfl) | h
    · rfl
    · rfl
    · rfl
    · rfl
    · exact rv_one l u h
theorem rv_set1 : ∀ (A : List RK) (y : RK) (B : List RK) (b : Bool), (rv (A ++ y :: B)).set (A.length * 4 + 1) (.bool b) = rv (A ++ { y with d := b } :: B)
  | [], y, B, b => rfl
  | a :: A, y, B, b => by
    have := rv_set1 A y B b
    rw [show (a :: A).length * 4 + 1 = (A.length * 4 + 1) + 1 + 1 + 1 + 1 by simp; omega]
    simp only [rv, rc, List.cons_append, List.nil_append, List.set_cons_succ, this]
theorem rv_set2 : ∀ (A : List RK) (y : RK) (B : List RK) (b : Bool), (rv (A ++ y :: B)).set (A.length * 4 + 2) (.bool b) = rv (A ++ { y with p := b } :: B)
  | [], y, B, b => rfl
  | a :: A, y, B, b => by
    have := rv_set2 A y B b
    rw [show (a :: A).length * 4 + 2 = (A.length * 4 + 2) + 1 + 1 + 1 + 1 by simp; omega]
    simp only [rv, rc, List.cons_append, List.nil_append, List.set_cons_succ, this]
theorem rv_set3 : ∀ (A : List RK) (y : RK) (B : List RK) (x : Int), (rv (A ++ y :: B)).set (A.length * 4 + 3) (.int .i64 x) = rv (A ++ { y with w := x } :: B)
  | [], y, B, x => rfl
  | a :: A, y, B, x => by
    have := rv_set3 A y B x
    rw [show (a :: A).length * 4 + 3 = (A.length * 4 + 3) + 1 + 1 + 1 + 1 by simp; omega]
    simp only [rv, rc, List.cons_append, List.nil_append, List.set_cons_succ, this]

def OwR (w : World) (base : Nat) (v : Value) (l : List RK) : Prop := w.ownsRow base 111 4 v l.length (rv l)
def rkZ : Value := .agg #[.int .i64 0, .bool false, .bool false, .int .i64 0]
theorem info_rk : (Tryd.prog.info? 111).map (fun i => (i.zero, i.size, i.bytes)) = some (some rkZ, 4, 24) := by kernel_rfl
section
variable {w w' : World} {base : Nat} {v : Value} {l : List RK}
theorem OwR.kept (h : OwR w base v l) (k : Kp w w') : OwR w' base v l := k.own h
theorem OwR.sp {T : List Nat} (h : OwR w base v l) (k : Sp T w w') (hT : ∀ g, v.ownBlock = some g → g ∉ T) : OwR w' base v l := k.own h hT
theorem OwR.lt (h : OwR w base v l) : ∀ g, v.ownBlock = some g → base ≤ g ∧ g < w.heap.size := fun g hg => World.ownsRow.lt h g hg
end
theorem OwR.nil (w : World) (base : Nat) : OwR w base (.slice none 0 0) [] := ⟨rfl, .inl ⟨rfl, rfl⟩⟩
theorem OwR.mono {w : World} {base base' : Nat} {v : Value} {l : List RK} (h : OwR w base v l) (hb : base' ≤ base) : OwR w base' v l := by
  rcases h.2 with ⟨h', h0⟩ | ⟨g, cap, cur, h', hg, hr⟩
  · exact ⟨h.1, .inl ⟨h', h0⟩⟩
  · exact ⟨h.1, .inr ⟨g, cap, cur, h', Nat.le_trans hb hg, hr⟩⟩
theorem OwR.shape {w : World} {base : Nat} {v : Value} {l : List RK} (h : OwR w base v l) : ∃ p c, v = .slice p l.length c ∧ l.length ≤ c ∧ c ≤ 9223372036854775807 := by
  rcases h.2 with ⟨rfl, h0⟩ | ⟨g, cap, cur, rfl, _, hg, hn, hm, hcs, htake⟩
  · exact ⟨none, 0, by rw [h0], by omega, by omega⟩
  · exact ⟨_, cap, rfl, hn, by unfold maxLen at hm; omega⟩
/-- the row's cells. -/
theorem OwR.cells {w : World} {base n c : Nat} {p : Option Addr} {l : List RK} (h : OwR w base (.slice p n c) l) : n = l.length ∧ ∃ g, (0 < n → p = some ⟨g, 0, none⟩) ∧ (0 < n → (Value.slice p n c).ownBlock = some g) ∧ (∀ i, i < n → w.cell? ⟨g, i * 4, none⟩ = some (.int .i64 (l.getD i rk0).n) ∧ w.cell? ⟨g, i * 4 + 1, none⟩ = some (.bool (l.getD i rk0).d) ∧ w.cell? ⟨g, i * 4 + 2, none⟩ = some (.bool (l.getD i rk0).p) ∧ w.cell? ⟨g, i * 4 + 3, none⟩ = some (.int .i64 (l.getD i rk0).w)) ∧ ∀ j, 0 < n → w.frozen? ⟨g, j, none⟩ = false := by
  have h0 := h
  rcases h.2 with ⟨h1, h2⟩ | ⟨g, cap, cur, h1, _, hg, hn, hm, hcs, htake⟩
  · simp at h1
    obtain ⟨rfl, rfl, rfl⟩ := h1
    exact ⟨h2.symm, 0, fun h => absurd h (by omega), fun h => absurd h (by omega), fun i hi => absurd hi (by omega), fun j h => absurd h (by omega)⟩
  · simp at h1
    obtain ⟨rfl, rfl, rfl⟩ := h1
    refine ⟨rfl, g, fun _ => rfl, fun _ => rfl, fun i hi => ?_, fun j _ => World.ownsRow.frozenAt h0 j⟩
    have hq := rv_at l i hi
    refine ⟨?_, ?_, ?_, ?_⟩
    · rw [World.ownsRow.cellAt h0 (i * 4) (by omega)]; exact hq.1
    · rw [World.ownsRow.cellAt h0 (i * 4 + 1) (by omega)]; exact hq.2.1
    · rw [World.ownsRow.cellAt h0 (i * 4 + 2) (by omega)]; exact hq.2.2.1
    · rw [World.ownsRow.cellAt h0 (i * 4 + 3) (by omega)]; exact hq.2.2.2
/-- one key appended. -/
theorem wpList_append_rk {w : World} {ops : Array Oper} {rest : List Oper} {o : Oper} {a : Act} {Q : Exit → Act → World → Prop} (hgd : o.guard = none) (s x : Operand)
    (ho : o.op = .call { callee := .builtin .append, args := #[s, x], argTypes := #[91, 91] })
    (base : Nat) (v : Value) (l : List RK) (hs : a.eval s = v) (hown : OwR w base v l) (p : RK) (k : Nat) (hx : a.eval x = .slice (some ⟨k, 0, none⟩) 1 1) (hc : w.rangeAt k 0 (rc p))
    (hlen : l.length + 1 ≤ 1099511627776) (hbase : base ≤ w.heap.size)
    (h : ∀ v' w', OwR w' base v' (l ++ [p]) → w.grownBy w' v.ownBlock → (v'.ownBlock = v.ownBlock ∨ v'.ownBlock = some w.heap.size) → wpList Tryd.prog ops Q rest (a.put o.dst v') w') : wpList Tryd.prog ops Q (o :: rest) a w := by
  obtain ⟨i0, hi, hz0, hz1, hz2⟩ := info_parts info_rk
  refine wpList_append_own_at w hgd s x 91 ho base 111 i0 rkZ 4 24 Tryd.underlying91 hi hz0 hz1 hz2 rfl (by decide) v l.length (rv l) hs hown ⟨k, 0, none⟩ 1 1 (rc p) hx rfl ?_ (by simp [rc, Value.oneCell']) (by unfold maxLen; omega) (by omega) hbase (fun v' w' h1 h2 _ h3 => h v' w' ?_ h2 h3)
  · intro j u hj
    rw [Addr.add_lit]
    exact hc j u hj
  · unfold OwR
    rw [List.length_append, rv_app]
    have : rv [p] = rc p := by simp [rv]
    rw [this]
    exact h1
theorem lit_rk (w : World) (p : RK) (t : TypeId) (k : Nat) (hk : k = w.heap.size) : (w.alloc (.cells #[.int .i64 p.n, .bool p.d, .bool p.p, .int .i64 p.w] t)).rangeAt k 0 (rc p) := by
  subst hk
  intro j u hj
  rw [World.cell?_alloc_at _ _ _ _ rfl, ← hj, Nat.zero_add]
  unfold rc
  simp
/-- a cell of a key stored. -/
theorem OwR.set {w : World} {base g n c : Nat} {l m : List RK} (h : OwR w base (.slice (some ⟨g, 0, none⟩) n c) l) (j : Nat) (x : Value) (e : (rv l).set j x = rv m) (hl : m.length = l.length) : OwR (w.setCell ⟨g, j, none⟩ x) base (.slice (some ⟨g, 0, none⟩) n c) m := by
  obtain ⟨rfl, _⟩ := h.cells
  have h1 := (World.ownsRow.stored h j x).1
  unfold OwR
  rw [hl, ← e]
  exact h1

/-! ### the object -/
structure RB (w0 w : World) (a : Nat) (v : Value) (R : RS) : Prop where
  h : w.heap[a]? = some (.cells #[.int .i64 R.M, .int .i64 R.Z, v, .int .i64 R.c] 93 (0, 0))
  o : OwR w w0.heap.size v R.L
  ba : w0.heap.size ≤ a
  va : v.ownBlock ≠ some a
  sz : w0.heap.size ≤ w.heap.size
def RX (w0 w : World) (a : Nat) (T : List Nat) (R : RS) : Prop := ∃ v, T = a :: v.ownBlock.toList ∧ RB w0 w a v R
section
variable {w0 w w' w2 : World} {a : Nat} {v v' : Value} {R : RS} {l : List RK}
theorem RB.low (h : RB w0 w a v R) : ∀ t ∈ a :: v.ownBlock.toList, t < w.heap.size ∧ w0.heap.size ≤ t := by
  intro t ht
  rcases List.mem_cons.1 ht with rfl | ht
  · exact ⟨heap_lt h.h, h.ba⟩
  · have := h.o.lt t (by simpa using ht); omega
theorem RB.sp {T : List Nat} (h : RB w0 w a v R) (k : Sp T w w') (hd : ∀ t ∈ a :: v.ownBlock.toList, t ∉ T) : RB w0 w' a v R :=
  ⟨(k.block a (heap_lt h.h) (hd a (by simp))).trans h.h, h.o.sp k (fun g hg => hd g (by simp [hg])), h.ba, h.va, Nat.le_trans h.sz k.size⟩
theorem OL.rx : OL RX where
  low := by rintro w0 w a T S ⟨v, rfl, h⟩ t ht; exact (h.low t ht).1
  new := by rintro w0 w a T S ⟨v, rfl, h⟩ t ht; exact (h.low t ht).2
  sp := by rintro w0 w w' a T T' S ⟨v, rfl, h⟩ k hd; exact ⟨v, rfl, h.sp k hd⟩
theorem RB.kept (h : RB w0 w a v R) (k : Kp w w') : RB w0 w' a v R := h.sp (k.sp []) (fun _ _ h => by cases h)
theorem RX.kept {T : List Nat} (h : RX w0 w a T R) (k : Kp w w') : RX w0 w' a T R := OL.rx.sp h (k.sp []) (fun _ _ h => by cases h)
theorem RB.cells (h : RB w0 w a v R) : w.cell? ⟨a, 0, none⟩ = some (.int .i64 R.M) ∧ w.cell? ⟨a, 1, none⟩ = some (.int .i64 R.Z) ∧ w.cell? ⟨a, 2, none⟩ = some v ∧ w.cell? ⟨a, 3, none⟩ = some (.int .i64 R.c) ∧ ∀ j, w.frozen? ⟨a, j, none⟩ = false :=
  ⟨cell_of h.h 0, cell_of h.h 1, cell_of h.h 2, cell_of h.h 3, frozen_of h.h⟩
/-- another row laid into the object. -/
theorem RB.setL (h : RB w0 w a v R) (k : Sp v.ownBlock.toList w w2) (ho : OwR w2 w0.heap.size v' l) (hn : v'.ownBlock = v.ownBlock ∨ ∀ N, v'.ownBlock = some N → w.heap.size ≤ N) :
    RB w0 (w2.setCell ⟨a, 2, none⟩ v') a v' { R with L := l } ∧ Sp (a :: v.ownBlock.toList) w (w2.setCell ⟨a, 2, none⟩ v') ∧ Nw w (a :: v.ownBlock.toList) (a :: v'.ownBlock.toList) := by
  have ha := heap_lt h.h
  have h1' := (k.block a ha (fun e => h.va (by simpa using e))).trans h.h
  have hva : v'.ownBlock ≠ some a := by
    rcases hn with hn | hn
    · rw [hn]; exact h.va
    · intro e; have := hn a e; omega
  have k2 : Sp [a] w2 (w2.setCell ⟨a, 2, none⟩ v') := (Sp.refl _ _).set a _ (by simp) _
  refine ⟨⟨heap_set h1' 2 _, ho.sp k2 (fun q hq e => hva (by simp at e; rw [← e]; exact hq)), h.ba, hva, Nat.le_trans h.sz (Nat.le_trans k.size k2.size)⟩, ?_, ?_⟩
  · exact (k.mono (fun t ht => List.mem_cons_of_mem _ ht)).trans (k2.mono (fun t ht => by simp at ht; subst ht; simp))
  · intro t ht
    rcases List.mem_cons.1 ht with rfl | ht
    · exact .inl (by simp)
    · rcases hn with hn | hn
      · rw [hn] at ht; exact .inl (List.mem_cons_of_mem _ ht)
      · exact .inr (hn t (by simpa using ht))
/-- the clock moved on. -/
theorem RB.setC (h : RB w0 w a v R) (c : Int) : RB w0 (w.setCell ⟨a, 3, none⟩ (.int .i64 c)) a v { R with c := c } ∧ Sp (a :: v.ownBlock.toList) w (w.setCell ⟨a, 3, none⟩ (.int .i64 c)) := by
  have k2 : Sp [a] w (w.setCell ⟨a, 3, none⟩ (.int .i64 c)) := (Sp.refl _ _).set a _ (by simp) _
  exact ⟨⟨heap_set h.h 3 _, h.o.sp k2 (fun q hq e => h.va (by simp at e; rw [← e]; exact hq)), h.ba, h.va, Nat.le_trans h.sz k2.size⟩, k2.mono (fun t ht => by simp at ht; subst ht; simp)⟩
/-- a cell of a key stored. -/
theorem RB.setK {g n c : Nat} (h : RB w0 w a (.slice (some ⟨g, 0, none⟩) n c) R) (j : Nat) (x : Value) (e : (rv R.L).set j x = rv l) (hl : l.length = R.L.length) : RB w0 (w.setCell ⟨g, j, none⟩ x) a (.slice (some ⟨g, 0, none⟩) n c) { R with L := l } ∧ Sp (a :: (Value.slice (some ⟨g, 0, none⟩) n c).ownBlock.toList) w (w.setCell ⟨g, j, none⟩ x) := by
  have hga : a ≠ g := fun e => h.va (by rw [e]; rfl)
  have k2 : Sp [g] w (w.setCell ⟨g, j, none⟩ x) := (Sp.refl _ _).set g _ (by simp) _
  exact ⟨⟨(k2.block a (heap_lt h.h) (by simpa using hga)).trans h.h, h.o.set j x e hl, h.ba, h.va, Nat.le_trans h.sz k2.size⟩, k2.mono (fun t ht => by simp at ht; subst ht; simp [Value.ownBlock])⟩
end

set_option maxRecDepth 100000 in
set_option maxHeartbeats 1000000 in
theorem rnew_ok (w0 : World) (m d : Int) (h : newOk m d) (w : World) (k0 : w0.heap.size ≤ w.heap.size) : Calls Tryd.prog 23 #[.int .i64 m, .int .i64 d] w fun e w' => ∃ a T, e = .returned (.tuple #[.pointer (some ⟨a, 0, none⟩), .int .i64 0]) ∧ RX w0 w' a T ⟨m, d, [], 0⟩ ∧ Kp w w' ∧ ∀ t ∈ T, w.heap.size ≤ t := by
  obtain ⟨h1, h2, h3, h4⟩ := h
  have d1 : decide (m < 1) = false := by simp; omega
  have d2 : decide (64 < m) = false := by simp; omega
  have d3 : decide (d < 0) = false := by simp; omega
  have d4 : decide (m ≤ d) = false := by simp; omega
  clear h1 h2 h3 h4
  go_enter Tryd.func23, Tryd.ntmps23
  go_wp2
  go_ret2
  refine ⟨w.heap.size, [w.heap.size], rfl, ⟨.slice none 0 0, rfl, ⟨new_obj _ _ _, OwR.nil _ _, k0, by simp [Value.ownBlock], by simp; omega⟩⟩, (Kp.refl w).alloc _, fun t ht => by simp at ht; omega⟩
set_option maxRecDepth 100000 in
theorem rnew_no (m d : Int) (h : ¬ newOk m d) (w : World) : Calls Tryd.prog 23 #[.int .i64 m, .int .i64 d] w fun e w' => e = .returned (.tuple #[.pointer none, .int .i64 2]) ∧ Kp w w' := by
  by_cases h1 : m < 1
  · have d1 : decide (m < 1) = true := by simp [h1]
    go_enter Tryd.func23, Tryd.ntmps23
    go_wp2
    go_ret2
    exact ⟨rfl, Kp.refl w⟩
  · have d1 : decide (m < 1) = false := by simp; omega
    by_cases h2 : 64 < m
    · have d2 : decide (64 < m) = true := by simp [h2]
      go_enter Tryd.func23, Tryd.ntmps23
      go_wp2
      go_ret2
      exact ⟨rfl, Kp.refl w⟩
    · have d2 : decide (64 < m) = false := by simp; omega
      by_cases h3 : d < 0
      · have d3 : decide (d < 0) = true := by simp [h3]
        go_enter Tryd.func23, Tryd.ntmps23
        go_wp2
        go_ret2
        exact ⟨rfl, Kp.refl w⟩
      · have d3 : decide (d < 0) = false := by simp; omega
        have d4 : decide (m ≤ d) = true := by unfold newOk at h; simp; omega
        clear h
        go_enter Tryd.func23, Tryd.ntmps23
        go_wp2
        go_ret2
        exact ⟨rfl, Kp.refl w⟩
/-- where the key stands first. -/
def Fr (l : List RK) (b : Int) (z : Int) : Prop := (z = -1 ∧ ∀ x ∈ l, x.n ≠ b) ∨ ∃ A y B, l = A ++ y :: B ∧ z = (A.length : Int) ∧ y.n = b ∧ ∀ x ∈ A, x.n ≠ b
set_option maxRecDepth 100000 in
set_option maxHeartbeats 2000000 in
theorem rfind_any {w0 w : World} {a : Nat} {T : List Nat} {R : RS} (h : RX w0 w a T R) (hl : R.L.length ≤ 1000) (b : Int) : Calls Tryd.prog 41 #[.pointer (some ⟨a, 0, none⟩), .int .i64 b] w fun e w' => ∃ z, e = .returned (.int .i64 z) ∧ Fr R.L b z ∧ w' = w := by
  obtain ⟨v, _, hB⟩ := h
  obtain ⟨_, _, c2, _, _⟩ := hB.cells
  obtain ⟨p, c, rfl, q1, q2⟩ := hB.o.shape
  obtain ⟨_, g, hp, _, hc, _⟩ := hB.o.cells
  obtain ⟨l, hL⟩ : ∃ l, l = R.L := ⟨_, rfl⟩
  rw [← hL] at c2 q1 hp hc hl ⊢
  obtain ⟨n, hn⟩ : ∃ n, n = l.length := ⟨_, rfl⟩
  rw [← hn] at c2 q1 hp hc hl
  have HN := hid hn
  have HC : Hid (∀ i, i < n → w.cell? ⟨g, i * 4, none⟩ = some (.int .i64 (l.getD i rk0).n)) := fun i hi => (hc i hi).1
  have HP := hid hp
  clear hB hL hn hc hp
  go_enter Tryd.func41, Tryd.ntmps41
  go_wp2
  go_loopw [5] (fun q wr => ∃ i : Nat, q = .int .i64 i ∧ i ≤ n ∧ Hid (∀ x ∈ l.take i, x.n ≠ b) ∧ wr = w) (fun q _ => n - (intOf q).toNat)
  case atStart => exact ⟨0, rfl, by omega, (by simp : ∀ x ∈ l.take 0, x.n ≠ b), rfl⟩
  case round =>
    obtain ⟨i, rfl, hi, HI, hw⟩ := hrel
    rw [hw]
    clear hw
    by_cases hin : i < n
    · obtain rfl := HP.out (by omega)
      have d0 := HC.out i hin
      have hil : i < l.length := by have := HN.out; omega
      obtain ⟨y, hy⟩ : ∃ y, y = (l.getD i rk0).n := ⟨_, rfl⟩
      rw [← hy] at d0
      have HY := hid hy
      have hi3 : (i : Int) < (n : Int) := by omega
      clear hy
      by_cases hyb : y = b
      · have hd2 : (y == b) = true := by simp [hyb]
        have HYB := hid hyb
        clear hyb
        go_wp2
        go_ret
        refine ⟨_, rfl, .inr ⟨l.take i, l.getD i rk0, l.drop (i + 1), rk_at hil, ?_, by rw [← HY.out]; exact HYB.out, HI.out⟩, rfl⟩
        rw [List.length_take, Nat.min_eq_left (by omega)]
      · have hd2 : (y == b) = false := by simp [hyb]
        have HI2 : Hid (∀ x ∈ l.take (i + 1), x.n ≠ b) := by
          show ∀ x ∈ l.take (i + 1), x.n ≠ b
          intro x hx
          rw [rk_take hil] at hx
          rcases List.mem_append.1 hx with hx | hx
          · exact HI.out x hx
          · rw [List.mem_singleton.1 hx, ← HY.out]; exact hyb
        go_wp2
        go_roundw
        case rel => exact ⟨i + 1, by go_num, by omega, HI2, trivial⟩
        case measure => simp [intOf]; omega
    · obtain rfl : i = n := by omega
      go_wp2
      go_ret
      exact ⟨_, rfl, .inl ⟨rfl, fun x hx => HI.out x (by rw [List.take_of_length_le (by have := HN.out; omega)]; exact hx)⟩, rfl⟩
set_option maxRecDepth 100000 in
set_option maxHeartbeats 2000000 in
theorem rdear_any {w0 w : World} {a : Nat} {T : List Nat} {R : RS} (h : RX w0 w a T R) (hl : R.L.length ≤ 1000) : Calls Tryd.prog 62 #[.pointer (some ⟨a, 0, none⟩)] w fun e w' => e = .returned (.int .i64 (((R.L.filter RK.d).length : Nat) : Int)) ∧ w' = w := by
  obtain ⟨v, _, hB⟩ := h
  obtain ⟨_, _, c2, _, _⟩ := hB.cells
  obtain ⟨p, c, rfl, q1, q2⟩ := hB.o.shape
  obtain ⟨_, g, hp, _, hc, _⟩ := hB.o.cells
  obtain ⟨l, hL⟩ : ∃ l, l = R.L := ⟨_, rfl⟩
  rw [← hL] at c2 q1 hp hc hl ⊢
  obtain ⟨n, hn⟩ : ∃ n, n = l.length := ⟨_, rfl⟩
  rw [← hn] at c2 q1 hp hc hl
  have HN := hid hn
  have HC : Hid (∀ i, i < n → w.cell? ⟨g, i * 4 + 1, none⟩ = some (.bool (l.getD i rk0).d)) := fun i hi => (hc i hi).2.1
  have HP := hid hp
  clear hB hL hn hc hp
  go_enter Tryd.func62, Tryd.ntmps62
  go_wp2
  go_loopw [3, 4] (fun r q wr => ∃ i j : Nat, q = .int .i64 i ∧ r = .int .i64 j ∧ i ≤ n ∧ j ≤ i ∧ Hid (j = ((l.take i).filter RK.d).length) ∧ wr = w) (fun _ q _ => n - (intOf q).toNat)
  case atStart => exact ⟨0, 0, rfl, rfl, by omega, by omega, (by simp : 0 = ((l.take 0).filter RK.d).length), rfl⟩
  case round =>
    obtain ⟨i, j, rfl, rfl, hi, hji, HI, hw⟩ := hrel
    rw [hw]
    clear hw
    by_cases hin : i < n
    · obtain rfl := HP.out (by omega)
      have d0 := HC.out i hin
      have hil : i < l.length := by have := HN.out; omega
      have hi3 : (i : Int) < (n : Int) := by omega
      have hnx : ((l.take (i + 1)).filter RK.d).length = ((l.take i).filter RK.d).length + (if (l.getD i rk0).d = true then 1 else 0) := by
        rw [rk_take hil, List.filter_append, List.length_append]
        congr 1
        rw [List.filter_cons]
        split <;> rfl
      rw [← HI.out] at hnx
      cases hb : (l.getD i rk0).d with
      | true =>
        rw [hb, if_pos rfl] at hnx
        rw [hb] at d0
        have HI2 : Hid (j + 1 = ((l.take (i + 1)).filter RK.d).length) := hnx.symm
        clear hnx hb HI
        go_wp2
        go_roundw
        case rel => exact ⟨i + 1, j + 1, by go_num, by go_num, by omega, by omega, HI2, trivial⟩
        case measure => simp [intOf]; omega
      | false =>
        rw [hb, if_neg (by decide)] at hnx
        rw [hb] at d0
        have HI2 : Hid (j = ((l.take (i + 1)).filter RK.d).length) := hnx.symm
        clear hnx hb HI
        go_wp2
        go_roundw
        case rel => exact ⟨i + 1, j, by go_num, rfl, by omega, by omega, HI2, trivial⟩
        case measure => simp [intOf]; omega
    · obtain rfl : i = n := by omega
      have HE : Hid (j = (l.filter RK.d).length) := by
        have := HI.out
        rwa [List.take_of_length_le (by have := HN.out; omega)] at this
      clear HI
      go_wp2
      go_ret
      exact ⟨by rw [← HE.out]; rfl, rfl⟩

end Go.Proofs.YtncdidklgpmefaaDoor

namespace Go.Proofs.YtncdidklgpmefaaDoor
open Go.RowKit Plain
set_option linter.unusedVariables false

set_option maxRecDepth 100000 in
set_option maxHeartbeats 4000000 in
theorem rfirst_00 {w0 w : World} {a : Nat} {T : List Nat} {R : RS} (h : RX w0 w a T R) (hl : R.L.length ≤ 1000) : Calls Tryd.prog 63 #[.pointer (some ⟨a, 0, none⟩), .bool false, .bool false] w fun e w' => ∃ z, e = .returned (.int .i64 z) ∧ Bst R.L false false z ∧ Kp w w' := by
  obtain ⟨v, _, hB⟩ := h
  obtain ⟨_, _, c2, _, _⟩ := hB.cells
  obtain ⟨p, c, rfl, q1, q2⟩ := hB.o.shape
  obtain ⟨_, g, hp, _, hc, _⟩ := hB.o.cells
  obtain ⟨l, hL⟩ : ∃ l, l = R.L := ⟨_, rfl⟩
  rw [← hL] at c2 q1 hp hc hl ⊢
  obtain ⟨n, hn⟩ : ∃ n, n = l.length := ⟨_, rfl⟩
  rw [← hn] at c2 q1 hp hc hl
  have HN := hid hn
  have HC := hid hc
  have HP := hid hp
  have H0 : Hid (Bsf l false false 0 (-1) ∧ Kp w w) := ⟨bsf_zero l false false, Kp.refl w⟩
  have HA := hid c2
  clear hB hL hn hc hp
  go_enter Tryd.func63, Tryd.ntmps63
  go_wp2
  go_loopw [7, 8] (fun b q wr => ∃ (i : Nat) (z : Int), q = .int .i64 i ∧ b = .int .i64 z ∧ i ≤ n ∧ Hid (Bsf l false false i z ∧ Kp w wr)) (fun _ q _ => n - (intOf q).toNat)
  case atStart => exact ⟨0, -1, rfl, rfl, by omega, H0⟩
  case round =>
    clear H0
    obtain ⟨i, z, rfl, rfl, hi, HI⟩ := hrel
    rename World => wr
    have c2 := HI.out.2.held HA.out
    by_cases hin : i < n
    · obtain rfl := HP.out (by omega)
      obtain ⟨_, d1, d2, d3⟩ := HC.out i hin
      have d1 := HI.out.2.held d1
      have d2 := HI.out.2.held d2
      have d3 := HI.out.2.held d3
      have hil : i < l.length := by have := HN.out; omega
      have hi3 : (i : Int) < (n : Int) := by omega
      obtain ⟨y, hy⟩ : ∃ y, y = l.getD i rk0 := ⟨_, rfl⟩
      rw [← hy] at d1 d2 d3
      have hok : okB false false (l.getD i rk0) = okB false false y := by rw [← hy]
      have HW : Hid (y.w = (l.getD i rk0).w) := by show y.w = _; rw [hy]
      obtain ⟨yn, yd, yp, yw⟩ := y
      simp only at d1 d2 d3 HW
      clear hy
      cases yd <;> cases yp
      · have HY : Hid (okB false false (l.getD i rk0) = true ∧ i < l.length) := ⟨hok, hil⟩
        clear hok hil
        by_cases hz : z < 0
        · have hz2 : decide (z < 0) = true := by simp [hz]
          have HE : Hid (Bsf l false false (i + 1) (i : Int) ∧ ∀ W, Kp wr W → Kp w W) := ⟨bsf_new HI.out.1 HY.out.2 HY.out.1 (.inl hz), fun W k => HI.out.2.trans k⟩
          clear HI HY
          go_wp2_with fail
          go_quiet (fail)
          go_wp2
          go_roundw
          case rel => exact ⟨i + 1, (i : Int), by go_num, rfl, by omega, HE.out.1, HE.out.2 _ ((Kp.refl wr).drewN _)⟩
          case measure => simp [intOf]; omega
        · have hz2 : decide (z < 0) = false := by simp; omega
          obtain ⟨b, hzb, hbi⟩ : ∃ b : Nat, z = (b : Int) ∧ b < i := by
            rcases HI.out.1 with ⟨h1, _⟩ | ⟨b, h1, h2, _⟩
            · omega
            · exact ⟨b, h1, h2⟩
          subst hzb
          obtain ⟨_, _, _, f3⟩ := HC.out b (by omega)
          have f3 := HI.out.2.held f3
          obtain ⟨bw, hbw⟩ : ∃ x, x = (l.getD b rk0).w := ⟨_, rfl⟩
          rw [← hbw] at f3
          have hb3 : (b : Int) < (n : Int) := by omega
          by_cases hlt : yw < bw
          · have hlt2 : decide (yw < bw) = true := by simp [hlt]
            have HQ : Hid ((l.getD i rk0).w < (l.getD b rk0).w) := by show _ < _; rw [← HW.out, ← hbw]; exact hlt
            clear hbw hlt hz
            have HE : Hid (Bsf l false false (i + 1) (i : Int) ∧ ∀ W, Kp wr W → Kp w W) := ⟨bsf_new HI.out.1 HY.out.2 HY.out.1 (.inr ⟨b, rfl, HQ.out⟩), fun W k => HI.out.2.trans k⟩
            clear HI HY
            go_wp2_with fail
            go_quiet (fail)
            go_wp2
            go_roundw
            case rel => exact ⟨i + 1, (i : Int), by go_num, rfl, by omega, HE.out.1, HE.out.2 _ ((Kp.refl wr).drewN _)⟩
            case measure => simp [intOf]; omega
          · have hlt2 : decide (yw < bw) = false := by simp; omega
            have HQ : Hid ((l.getD b rk0).w ≤ (l.getD i rk0).w) := by show _ ≤ _; rw [← HW.out, ← hbw]; omega
            clear hbw hlt hz
            have HE : Hid (Bsf l false false (i + 1) (b : Int) ∧ ∀ W, Kp wr W → Kp w W) := ⟨bsf_keep HI.out.1 HY.out.2 rfl HQ.out, fun W k => HI.out.2.trans k⟩
            clear HI HY
            go_wp2_with fail
            go_quiet (fail)
            go_wp2
            go_roundw
            case rel => exact ⟨i + 1, (b : Int), by go_num, rfl, by omega, HE.out.1, HE.out.2 _ ((Kp.refl wr).drewN _)⟩
            case measure => simp [intOf]; omega
      · have HY : Hid (okB false false (l.getD i rk0) = true ∧ i < l.length) := ⟨hok, hil⟩
        clear hok hil
        by_cases hz : z < 0
        · have hz2 : decide (z < 0) = true := by simp [hz]
          have HE : Hid (Bsf l false false (i + 1) (i : Int) ∧ ∀ W, Kp wr W → Kp w W) := ⟨bsf_new HI.out.1 HY.out.2 HY.out.1 (.inl hz), fun W k => HI.out.2.trans k⟩
          clear HI HY
          go_wp2_with fail
          go_quiet (fail)
          go_wp2
          go_roundw
          case rel => exact ⟨i + 1, (i : Int), by go_num, rfl, by omega, HE.out.1, HE.out.2 _ ((Kp.refl wr).drewN _)⟩
          case measure => simp [intOf]; omega
        · have hz2 : decide (z < 0) = false := by simp; omega
          obtain ⟨b, hzb, hbi⟩ : ∃ b : Nat, z = (b : Int) ∧ b < i := by
            rcases HI.out.1 with ⟨h1, _⟩ | ⟨b, h1, h2, _⟩
            · omega
            · exact ⟨b, h1, h2⟩
          subst hzb
          obtain ⟨_, _, _, f3⟩ := HC.out b (by omega)
          have f3 := HI.out.2.held f3
          obtain ⟨bw, hbw⟩ : ∃ x, x = (l.getD b rk0).w := ⟨_, rfl⟩
          rw [← hbw] at f3
          have hb3 : (b : Int) < (n : Int) := by omega
          by_cases hlt : yw < bw
          · have hlt2 : decide (yw < bw) = true := by simp [hlt]
            have HQ : Hid ((l.getD i rk0).w < (l.getD b rk0).w) := by show _ < _; rw [← HW.out, ← hbw]; exact hlt
            clear hbw hlt hz
            have HE : Hid (Bsf l false false (i + 1) (i : Int) ∧ ∀ W, Kp wr W → Kp w W) := ⟨bsf_new HI.out.1 HY.out.2 HY.out.1 (.inr ⟨b, rfl, HQ.out⟩), fun W k => HI.out.2.trans k⟩
            clear HI HY
            go_wp2_with fail
            go_quiet (fail)
            go_wp2
            go_roundw
            case rel => exact ⟨i + 1, (i : Int), by go_num, rfl, by omega, HE.out.1, HE.out.2 _ ((Kp.refl wr).drewN _)⟩
            case measure => simp [intOf]; omega
          · have hlt2 : decide (yw < bw) = false := by simp; omega
            have HQ : Hid ((l.getD b rk0).w ≤ (l.getD i rk0).w) := by show _ ≤ _; rw [← HW.out, ← hbw]; omega
            clear hbw hlt hz
            have HE : Hid (Bsf l false false (i + 1) (b : Int) ∧ ∀ W, Kp wr W → Kp w W) := ⟨bsf_keep HI.out.1 HY.out.2 rfl HQ.out, fun W k => HI.out.2.trans k⟩
            clear HI HY
            go_wp2_with fail
            go_quiet (fail)
            go_wp2
            go_roundw
            case rel => exact ⟨i + 1, (b : Int), by go_num, rfl, by omega, HE.out.1, HE.out.2 _ ((Kp.refl wr).drewN _)⟩
            case measure => simp [intOf]; omega
      · have HY : Hid (okB false false (l.getD i rk0) = false ∧ i < l.length) := ⟨hok, hil⟩
        clear hok hil
        have HE : Hid (Bsf l false false (i + 1) z ∧ ∀ W, Kp wr W → Kp w W) := ⟨bsf_skip HI.out.1 HY.out.2 HY.out.1, fun W k => HI.out.2.trans k⟩
        clear HI HY
        go_wp2
        go_roundw
        case rel => exact ⟨i + 1, z, by go_num, rfl, by omega, HE.out.1, HE.out.2 _ (Kp.refl wr)⟩
        case measure => simp [intOf]; omega
      · have HY : Hid (okB false false (l.getD i rk0) = false ∧ i < l.length) := ⟨hok, hil⟩
        clear hok hil
        have HE : Hid (Bsf l false false (i + 1) z ∧ ∀ W, Kp wr W → Kp w W) := ⟨bsf_skip HI.out.1 HY.out.2 HY.out.1, fun W k => HI.out.2.trans k⟩
        clear HI HY
        go_wp2
        go_roundw
        case rel => exact ⟨i + 1, z, by go_num, rfl, by omega, HE.out.1, HE.out.2 _ (Kp.refl wr)⟩
        case measure => simp [intOf]; omega
    · obtain rfl : i = n := by omega
      have HE : Hid (Bst l false false z ∧ Kp w wr) := ⟨bsf_all (by have := HI.out.1; rwa [HN.out] at this), HI.out.2⟩
      clear HI
      go_wp2
      go_ret
      exact ⟨z, rfl, HE.out.1, HE.out.2⟩
set_option maxRecDepth 100000 in
set_option maxHeartbeats 4000000 in
theorem rfirst_01 {w0 w : World} {a : Nat} {T : List Nat} {R : RS} (h : RX w0 w a T R) (hl : R.L.length ≤ 1000) : Calls Tryd.prog 63 #[.pointer (some ⟨a, 0, none⟩), .bool false, .bool true] w fun e w' => ∃ z, e = .returned (.int .i64 z) ∧ Bst R.L false true z ∧ Kp w w' := by
  obtain ⟨v, _, hB⟩ := h
  obtain ⟨_, _, c2, _, _⟩ := hB.cells
  obtain ⟨p, c, rfl, q1, q2⟩ := hB.o.shape
  obtain ⟨_, g, hp, _, hc, _⟩ := hB.o.cells
  obtain ⟨l, hL⟩ : ∃ l, l = R.L := ⟨_, rfl⟩
  rw [← hL] at c2 q1 hp hc hl ⊢
  obtain ⟨n, hn⟩ : ∃ n, n = l.length := ⟨_, rfl⟩
  rw [← hn] at c2 q1 hp hc hl
  have HN := hid hn
  have HC := hid hc
  have HP := hid hp
  have H0 : Hid (Bsf l false true 0 (-1) ∧ Kp w w) := ⟨bsf_zero l false true, Kp.refl w⟩
  have HA := hid c2
  clear hB hL hn hc hp
  go_enter Tryd.func63, Tryd.ntmps63
  go_wp2
  go_loopw [7, 8] (fun b q wr => ∃ (i : Nat) (z : Int), q = .int .i64 i ∧ b = .int .i64 z ∧ i ≤ n ∧ Hid (Bsf l false true i z ∧ Kp w wr)) (fun _ q _ => n - (intOf q).toNat)
  case atStart => exact ⟨0, -1, rfl, rfl, by omega, H0⟩
  case round =>
    clear H0
    obtain ⟨i, z, rfl, rfl, hi, HI⟩ := hrel
    rename World => wr
    have c2 := HI.out.2.held HA.out
    by_cases hin : i < n
    · obtain rfl := HP.out (by omega)
      obtain ⟨_, d1, d2, d3⟩ := HC.out i hin
      have d1 := HI.out.2.held d1
      have d2 := HI.out.2.held d2
      have d3 := HI.out.2.held d3
      have hil : i < l.length := by have := HN.out; omega
      have hi3 : (i : Int) < (n : Int) := by omega
      obtain ⟨y, hy⟩ : ∃ y, y = l.getD i rk0 := ⟨_, rfl⟩
      rw [← hy] at d1 d2 d3
      have hok : okB false true (l.getD i rk0) = okB false true y := by rw [← hy]
      have HW : Hid (y.w = (l.getD i rk0).w) := by show y.w = _; rw [hy]
      obtain ⟨yn, yd, yp, yw⟩ := y
      simp only at d1 d2 d3 HW
      clear hy
      cases yd <;> cases yp
      · have HY : Hid (okB false true (l.getD i rk0) = true ∧ i < l.length) := ⟨hok, hil⟩
        clear hok hil
        by_cases hz : z < 0
        · have hz2 : decide (z < 0) = true := by simp [hz]
          have HE : Hid (Bsf l false true (i + 1) (i : Int) ∧ ∀ W, Kp wr W → Kp w W) := ⟨bsf_new HI.out.1 HY.out.2 HY.out.1 (.inl hz), fun W k => HI.out.2.trans k⟩
          clear HI HY
          go_wp2_with fail
          go_quiet (fail)
          go_wp2
          go_roundw
          case rel => exact ⟨i + 1, (i : Int), by go_num, rfl, by omega, HE.out.1, HE.out.2 _ ((Kp.refl wr).drewN _)⟩
          case measure => simp [intOf]; omega
        · have hz2 : decide (z < 0) = false := by simp; omega
          obtain ⟨b, hzb, hbi⟩ : ∃ b : Nat, z = (b : Int) ∧ b < i := by
            rcases HI.out.1 with ⟨h1, _⟩ | ⟨b, h1, h2, _⟩
            · omega
            · exact ⟨b, h1, h2⟩
          subst hzb
          obtain ⟨_, _, _, f3⟩ := HC.out b (by omega)
          have f3 := HI.out.2.held f3
          obtain ⟨bw, hbw⟩ : ∃ x, x = (l.getD b rk0).w := ⟨_, rfl⟩
          rw [← hbw] at f3
          have hb3 : (b : Int) < (n : Int) := by omega
          by_cases hlt : yw < bw
          · have hlt2 : decide (yw < bw) = true := by simp [hlt]
            have HQ : Hid ((l.getD i rk0).w < (l.getD b rk0).w) := by show _ < _; rw [← HW.out, ← hbw]; exact hlt
            clear hbw hlt hz
            have HE : Hid (Bsf l false true (i + 1) (i : Int) ∧ ∀ W, Kp wr W → Kp w W) := ⟨bsf_new HI.out.1 HY.out.2 HY.out.1 (.inr ⟨b, rfl, HQ.out⟩), fun W k => HI.out.2.trans k⟩
            clear HI HY
            go_wp2_with fail
            go_quiet (fail)
            go_wp2
            go_roundw
            case rel => exact ⟨i + 1, (i : Int), by go_num, rfl, by omega, HE.out.1, HE.out.2 _ ((Kp.refl wr).drewN _)⟩
            case measure => simp [intOf]; omega
          · have hlt2 : decide (yw < bw) = false := by simp; omega
            have HQ : Hid ((l.getD b rk0).w ≤ (l.getD i rk0).w) := by show _ ≤ _; rw [← HW.out, ← hbw]; omega
            clear hbw hlt hz
            have HE : Hid (Bsf l false true (i + 1) (b : Int) ∧ ∀ W, Kp wr W → Kp w W) := ⟨bsf_keep HI.out.1 HY.out.2 rfl HQ.out, fun W k => HI.out.2.trans k⟩
            clear HI HY
            go_wp2_with fail
            go_quiet (fail)
            go_wp2
            go_roundw
            case rel => exact ⟨i + 1, (b : Int), by go_num, rfl, by omega, HE.out.1, HE.out.2 _ ((Kp.refl wr).drewN _)⟩
            case measure => simp [intOf]; omega
      · have HY : Hid (okB false true (l.getD i rk0) = false ∧ i < l.length) := ⟨hok, hil⟩
        clear hok hil
        have HE : Hid (Bsf l false true (i + 1) z ∧ ∀ W, Kp wr W → Kp w W) := ⟨bsf_skip HI.out.1 HY.out.2 HY.out.1, fun W k => HI.out.2.trans k⟩
        clear HI HY
        go_wp2
        go_roundw
        case rel => exact ⟨i + 1, z, by go_num, rfl, by omega, HE.out.1, HE.out.2 _ (Kp.refl wr)⟩
        case measure => simp [intOf]; omega
      · have HY : Hid (okB false true (l.getD i rk0) = false ∧ i < l.length) := ⟨hok, hil⟩
        clear hok hil
        have HE : Hid (Bsf l false true (i + 1) z ∧ ∀ W, Kp wr W → Kp w W) := ⟨bsf_skip HI.out.1 HY.out.2 HY.out.1, fun W k => HI.out.2.trans k⟩
        clear HI HY
        go_wp2
        go_roundw
        case rel => exact ⟨i + 1, z, by go_num, rfl, by omega, HE.out.1, HE.out.2 _ (Kp.refl wr)⟩
        case measure => simp [intOf]; omega
      · have HY : Hid (okB false true (l.getD i rk0) = false ∧ i < l.length) := ⟨hok, hil⟩
        clear hok hil
        have HE : Hid (Bsf l false true (i + 1) z ∧ ∀ W, Kp wr W → Kp w W) := ⟨bsf_skip HI.out.1 HY.out.2 HY.out.1, fun W k => HI.out.2.trans k⟩
        clear HI HY
        go_wp2
        go_roundw
        case rel => exact ⟨i + 1, z, by go_num, rfl, by omega, HE.out.1, HE.out.2 _ (Kp.refl wr)⟩
        case measure => simp [intOf]; omega
    · obtain rfl : i = n := by omega
      have HE : Hid (Bst l false true z ∧ Kp w wr) := ⟨bsf_all (by have := HI.out.1; rwa [HN.out] at this), HI.out.2⟩
      clear HI
      go_wp2
      go_ret
      exact ⟨z, rfl, HE.out.1, HE.out.2⟩
set_option maxRecDepth 100000 in
set_option maxHeartbeats 4000000 in
theorem rfirst_10 {w0 w : World} {a : Nat} {T : List Nat} {R : RS} (h : RX w0 w a T R) (hl : R.L.length ≤ 1000) : Calls Tryd.prog 63 #[.pointer (some ⟨a, 0, none⟩), .bool true, .bool false] w fun e w' => ∃ z, e = .returned (.int .i64 z) ∧ Bst R.L true false z ∧ Kp w w' := by
  obtain ⟨v, _, hB⟩ := h
  obtain ⟨_, _, c2, _, _⟩ := hB.cells
  obtain ⟨p, c, rfl, q1, q2⟩ := hB.o.shape
  obtain ⟨_, g, hp, _, hc, _⟩ := hB.o.cells
  obtain ⟨l, hL⟩ : ∃ l, l = R.L := ⟨_, rfl⟩
  rw [← hL] at c2 q1 hp hc hl ⊢
  obtain ⟨n, hn⟩ : ∃ n, n = l.length := ⟨_, rfl⟩
  rw [← hn] at c2 q1 hp hc hl
  have HN := hid hn
  have HC := hid hc
  have HP := hid hp
  have H0 : Hid (Bsf l true false 0 (-1) ∧ Kp w w) := ⟨bsf_zero l true false, Kp.refl w⟩
  have HA := hid c2
  clear hB hL hn hc hp
  go_enter Tryd.func63, Tryd.ntmps63
  go_wp2
  go_loopw [7, 8] (fun b q wr => ∃ (i : Nat) (z : Int), q = .int .i64 i ∧ b = .int .i64 z ∧ i ≤ n ∧ Hid (Bsf l true false i z ∧ Kp w wr)) (fun _ q _ => n - (intOf q).toNat)
  case atStart => exact ⟨0, -1, rfl, rfl, by omega, H0⟩
  case round =>
    clear H0
    obtain ⟨i, z, rfl, rfl, hi, HI⟩ := hrel
    rename World => wr
    have c2 := HI.out.2.held HA.out
    by_cases hin : i < n
    · obtain rfl := HP.out (by omega)
      obtain ⟨_, d1, d2, d3⟩ := HC.out i hin
      have d1 := HI.out.2.held d1
      have d2 := HI.out.2.held d2
      have d3 := HI.out.2.held d3
      have hil : i < l.length := by have := HN.out; omega
      have hi3 : (i : Int) < (n : Int) := by omega
      obtain ⟨y, hy⟩ : ∃ y, y = l.getD i rk0 := ⟨_, rfl⟩
      rw [← hy] at d1 d2 d3
      have hok : okB true false (l.getD i rk0) = okB true false y := by rw [← hy]
      have HW : Hid (y.w = (l.getD i rk0).w) := by show y.w = _; rw [hy]
      obtain ⟨yn, yd, yp, yw⟩ := y
      simp only at d1 d2 d3 HW
      clear hy
      cases yd <;> cases yp
      · have HY : Hid (okB true false (l.getD i rk0) = false ∧ i < l.length) := ⟨hok, hil⟩
        clear hok hil
        have HE : Hid (Bsf l true false (i + 1) z ∧ ∀ W, Kp wr W → Kp w W) := ⟨bsf_skip HI.out.1 HY.out.2 HY.out.1, fun W k => HI.out.2.trans k⟩
        clear HI HY
        go_wp2
        go_roundw
        case rel => exact ⟨i + 1, z, by go_num, rfl, by omega, HE.out.1, HE.out.2 _ (Kp.refl wr)⟩
        case measure => simp [intOf]; omega
      · have HY : Hid (okB true false (l.getD i rk0) = false ∧ i < l.length) := ⟨hok, hil⟩
        clear hok hil
        have HE : Hid (Bsf l true false (i + 1) z ∧ ∀ W, Kp wr W → Kp w W) := ⟨bsf_skip HI.out.1 HY.out.2 HY.out.1, fun W k => HI.out.2.trans k⟩
        clear HI HY
        go_wp2
        go_roundw
        case rel => exact ⟨i + 1, z, by go_num, rfl, by omega, HE.out.1, HE.out.2 _ (Kp.refl wr)⟩
        case measure => simp [intOf]; omega
      · have HY : Hid (okB true false (l.getD i rk0) = true ∧ i < l.length) := ⟨hok, hil⟩
        clear hok hil
        by_cases hz : z < 0
        · have hz2 : decide (z < 0) = true := by simp [hz]
          have HE : Hid (Bsf l true false (i + 1) (i : Int) ∧ ∀ W, Kp wr W → Kp w W) := ⟨bsf_new HI.out.1 HY.out.2 HY.out.1 (.inl hz), fun W k => HI.out.2.trans k⟩
          clear HI HY
          go_wp2_with fail
          go_quiet (fail)
          go_wp2
          go_roundw
          case rel => exact ⟨i + 1, (i : Int), by go_num, rfl, by omega, HE.out.1, HE.out.2 _ ((Kp.refl wr).drewN _)⟩
          case measure => simp [intOf]; omega
        · have hz2 : decide (z < 0) = false := by simp; omega
          obtain ⟨b, hzb, hbi⟩ : ∃ b : Nat, z = (b : Int) ∧ b < i := by
            rcases HI.out.1 with ⟨h1, _⟩ | ⟨b, h1, h2, _⟩
            · omega
            · exact ⟨b, h1, h2⟩
          subst hzb
          obtain ⟨_, _, _, f3⟩ := HC.out b (by omega)
          have f3 := HI.out.2.held f3
          obtain ⟨bw, hbw⟩ : ∃ x, x = (l.getD b rk0).w := ⟨_, rfl⟩
          rw [← hbw] at f3
          have hb3 : (b : Int) < (n : Int) := by omega
          by_cases hlt : yw < bw
          · have hlt2 : decide (yw < bw) = true := by simp [hlt]
            have HQ : Hid ((l.getD i rk0).w < (l.getD b rk0).w) := by show _ < _; rw [← HW.out, ← hbw]; exact hlt
            clear hbw hlt hz
            have HE : Hid (Bsf l true false (i + 1) (i : Int) ∧ ∀ W, Kp wr W → Kp w W) := ⟨bsf_new HI.out.1 HY.out.2 HY.out.1 (.inr ⟨b, rfl, HQ.out⟩), fun W k => HI.out.2.trans k⟩
            clear HI HY
            go_wp2_with fail
            go_quiet (fail)
            go_wp2
            go_roundw
            case rel => exact ⟨i + 1, (i : Int), by go_num, rfl, by omega, HE.out.1, HE.out.2 _ ((Kp.refl wr).drewN _)⟩
            case measure => simp [intOf]; omega
          · have hlt2 : decide (yw < bw) = false := by simp; omega
            have HQ : Hid ((l.getD b rk0).w ≤ (l.getD i rk0).w) := by show _ ≤ _; rw [← HW.out, ← hbw]; omega
            clear hbw hlt hz
            have HE : Hid (Bsf l true false (i + 1) (b : Int) ∧ ∀ W, Kp wr W → Kp w W) := ⟨bsf_keep HI.out.1 HY.out.2 rfl HQ.out, fun W k => HI.out.2.trans k⟩
            clear HI HY
            go_wp2_with fail
            go_quiet (fail)
            go_wp2
            go_roundw
            case rel => exact ⟨i + 1, (b : Int), by go_num, rfl, by omega, HE.out.1, HE.out.2 _ ((Kp.refl wr).drewN _)⟩
            case measure => simp [intOf]; omega
      · have HY : Hid (okB true false (l.getD i rk0) = true ∧ i < l.length) := ⟨hok, hil⟩
        clear hok hil
        by_cases hz : z < 0
        · have hz2 : decide (z < 0) = true := by simp [hz]
          have HE : Hid (Bsf l true false (i + 1) (i : Int) ∧ ∀ W, Kp wr W → Kp w W) := ⟨bsf_new HI.out.1 HY.out.2 HY.out.1 (.inl hz), fun W k => HI.out.2.trans k⟩
          clear HI HY
          go_wp2_with fail
          go_quiet (fail)
          go_wp2
          go_roundw
          case rel => exact ⟨i + 1, (i : Int), by go_num, rfl, by omega, HE.out.1, HE.out.2 _ ((Kp.refl wr).drewN _)⟩
          case measure => simp [intOf]; omega
        · have hz2 : decide (z < 0) = false := by simp; omega
          obtain ⟨b, hzb, hbi⟩ : ∃ b : Nat, z = (b : Int) ∧ b < i := by
            rcases HI.out.1 with ⟨h1, _⟩ | ⟨b, h1, h2, _⟩
            · omega
            · exact ⟨b, h1, h2⟩
          subst hzb
          obtain ⟨_, _, _, f3⟩ := HC.out b (by omega)
          have f3 := HI.out.2.held f3
          obtain ⟨bw, hbw⟩ : ∃ x, x = (l.getD b rk0).w := ⟨_, rfl⟩
          rw [← hbw] at f3
          have hb3 : (b : Int) < (n : Int) := by omega
          by_cases hlt : yw < bw
          · have hlt2 : decide (yw < bw) = true := by simp [hlt]
            have HQ : Hid ((l.getD i rk0).w < (l.getD b rk0).w) := by show _ < _; rw [← HW.out, ← hbw]; exact hlt
            clear hbw hlt hz
            have HE : Hid (Bsf l true false (i + 1) (i : Int) ∧ ∀ W, Kp wr W → Kp w W) := ⟨bsf_new HI.out.1 HY.out.2 HY.out.1 (.inr ⟨b, rfl, HQ.out⟩), fun W k => HI.out.2.trans k⟩
            clear HI HY
            go_wp2_with fail
            go_quiet (fail)
            go_wp2
            go_roundw
            case rel => exact ⟨i + 1, (i : Int), by go_num, rfl, by omega, HE.out.1, HE.out.2 _ ((Kp.refl wr).drewN _)⟩
            case measure => simp [intOf]; omega
          · have hlt2 : decide (yw < bw) = false := by simp; omega
            have HQ : Hid ((l.getD b rk0).w ≤ (l.getD i rk0).w) := by show _ ≤ _; rw [← HW.out, ← hbw]; omega
            clear hbw hlt hz
            have HE : Hid (Bsf l true false (i + 1) (b : Int) ∧ ∀ W, Kp wr W → Kp w W) := ⟨bsf_keep HI.out.1 HY.out.2 rfl HQ.out, fun W k => HI.out.2.trans k⟩
            clear HI HY
            go_wp2_with fail
            go_quiet (fail)
            go_wp2
            go_roundw
            case rel => exact ⟨i + 1, (b : Int), by go_num, rfl, by omega, HE.out.1, HE.out.2 _ ((Kp.refl wr).drewN _)⟩
            case measure => simp [intOf]; omega
    · obtain rfl : i = n := by omega
      have HE : Hid (Bst l true false z ∧ Kp w wr) := ⟨bsf_all (by have := HI.out.1; rwa [HN.out] at this), HI.out.2⟩
      clear HI
      go_wp2
      go_ret
      exact ⟨z, rfl, HE.out.1, HE.out.2⟩
set_option maxRecDepth 100000 in
set_option maxHeartbeats 4000000 in
theorem rfirst_11 {w0 w : World} {a : Nat} {T : List Nat} {R : RS} (h : RX w0 w a T R) (hl : R.L.length ≤ 1000) : Calls Tryd.prog 63 #[.pointer (some ⟨a, 0, none⟩), .bool true, .bool true] w fun e w' => ∃ z, e = .returned (.int .i64 z) ∧ Bst R.L true true z ∧ Kp w w' := by
  obtain ⟨v, _, hB⟩ := h
  obtain ⟨_, _, c2, _, _⟩ := hB.cells
  obtain ⟨p, c, rfl, q1, q2⟩ := hB.o.shape
  obtain ⟨_, g, hp, _, hc, _⟩ := hB.o.cells
  obtain ⟨l, hL⟩ : ∃ l, l = R.L := ⟨_, rfl⟩
  rw [← hL] at c2 q1 hp hc hl ⊢
  obtain ⟨n, hn⟩ : ∃ n, n = l.length := ⟨_, rfl⟩
  rw [← hn] at c2 q1 hp hc hl
  have HN := hid hn
  have HC := hid hc
  have HP := hid hp
  have H0 : Hid (Bsf l true true 0 (-1) ∧ Kp w w) := ⟨bsf_zero l true true, Kp.refl w⟩
  have HA := hid c2
  clear hB hL hn hc hp
  go_enter Tryd.func63, Tryd.ntmps63
  go_wp2
  go_loopw [7, 8] (fun b q wr => ∃ (i : Nat) (z : Int), q = .int .i64 i ∧ b = .int .i64 z ∧ i ≤ n ∧ Hid (Bsf l true true i z ∧ Kp w wr)) (fun _ q _ => n - (intOf q).toNat)
  case atStart => exact ⟨0, -1, rfl, rfl, by omega, H0⟩
  case round =>
    clear H0
    obtain ⟨i, z, rfl, rfl, hi, HI⟩ := hrel
    rename World => wr
    have c2 := HI.out.2.held HA.out
    by_cases hin : i < n
    · obtain rfl := HP.out (by omega)
      obtain ⟨_, d1, d2, d3⟩ := HC.out i hin
      have d1 := HI.out.2.held d1
      have d2 := HI.out.2.held d2
      have d3 := HI.out.2.held d3
      have hil : i < l.length := by have := HN.out; omega
      have hi3 : (i : Int) < (n : Int) := by omega
      obtain ⟨y, hy⟩ : ∃ y, y = l.getD i rk0 := ⟨_, rfl⟩
      rw [← hy] at d1 d2 d3
      have hok : okB true true (l.getD i rk0) = okB true true y := by rw [← hy]
      have HW : Hid (y.w = (l.getD i rk0).w) := by show y.w = _; rw [hy]
      obtain ⟨yn, yd, yp, yw⟩ := y
      simp only at d1 d2 d3 HW
      clear hy
      cases yd <;> cases yp
      · have HY : Hid (okB true true (l.getD i rk0) = false ∧ i < l.length) := ⟨hok, hil⟩
        clear hok hil
        have HE : Hid (Bsf l true true (i + 1) z ∧ ∀ W, Kp wr W → Kp w W) := ⟨bsf_skip HI.out.1 HY.out.2 HY.out.1, fun W k => HI.out.2.trans k⟩
        clear HI HY
        go_wp2
        go_roundw
        case rel => exact ⟨i + 1, z, by go_num, rfl, by omega, HE.out.1, HE.out.2 _ (Kp.refl wr)⟩
        case measure => simp [intOf]; omega
      · have HY : Hid (okB true true (l.getD i rk0) = false ∧ i < l.length) := ⟨hok, hil⟩
        clear hok hil
        have HE : Hid (Bsf l true true (i + 1) z ∧ ∀ W, Kp wr W → Kp w W) := ⟨bsf_skip HI.out.1 HY.out.2 HY.out.1, fun W k => HI.out.2.trans k⟩
        clear HI HY
        go_wp2
        go_roundw
        case rel => exact ⟨i + 1, z, by go_num, rfl, by omega, HE.out.1, HE.out.2 _ (Kp.refl wr)⟩
        case measure => simp [intOf]; omega
      · have HY : Hid (okB true true (l.getD i rk0) = true ∧ i < l.length) := ⟨hok, hil⟩
        clear hok hil
        by_cases hz : z < 0
        · have hz2 : decide (z < 0) = true := by simp [hz]
          have HE : Hid (Bsf l true true (i + 1) (i : Int) ∧ ∀ W, Kp wr W → Kp w W) := ⟨bsf_new HI.out.1 HY.out.2 HY.out.1 (.inl hz), fun W k => HI.out.2.trans k⟩
          clear HI HY
          go_wp2_with fail
          go_quiet (fail)
          go_wp2
          go_roundw
          case rel => exact ⟨i + 1, (i : Int), by go_num, rfl, by omega, HE.out.1, HE.out.2 _ ((Kp.refl wr).drewN _)⟩
          case measure => simp [intOf]; omega
        · have hz2 : decide (z < 0) = false := by simp; omega
          obtain ⟨b, hzb, hbi⟩ : ∃ b : Nat, z = (b : Int) ∧ b < i := by
            rcases HI.out.1 with ⟨h1, _⟩ | ⟨b, h1, h2, _⟩
            · omega
            · exact ⟨b, h1, h2⟩
          subst hzb
          obtain ⟨_, _, _, f3⟩ := HC.out b (by omega)
          have f3 := HI.out.2.held f3
          obtain ⟨bw, hbw⟩ : ∃ x, x = (l.getD b rk0).w := ⟨_, rfl⟩
          rw [← hbw] at f3
          have hb3 : (b : Int) < (n : Int) := by omega
          by_cases hlt : yw < bw
          · have hlt2 : decide (yw < bw) = true := by simp [hlt]
            have HQ : Hid ((l.getD i rk0).w < (l.getD b rk0).w) := by show _ < _; rw [← HW.out, ← hbw]; exact hlt
            clear hbw hlt hz
            have HE : Hid (Bsf l true true (i + 1) (i : Int) ∧ ∀ W, Kp wr W → Kp w W) := ⟨bsf_new HI.out.1 HY.out.2 HY.out.1 (.inr ⟨b, rfl, HQ.out⟩), fun W k => HI.out.2.trans k⟩
            clear HI HY
            go_wp2_with fail
            go_quiet (fail)
            go_wp2
            go_roundw
            case rel => exact ⟨i + 1, (i : Int), by go_num, rfl, by omega, HE.out.1, HE.out.2 _ ((Kp.refl wr).drewN _)⟩
            case measure => simp [intOf]; omega
          · have hlt2 : decide (yw < bw) = false := by simp; omega
            have HQ : Hid ((l.getD b rk0).w ≤ (l.getD i rk0).w) := by show _ ≤ _; rw [← HW.out, ← hbw]; omega
            clear hbw hlt hz
            have HE : Hid (Bsf l true true (i + 1) (b : Int) ∧ ∀ W, Kp wr W → Kp w W) := ⟨bsf_keep HI.out.1 HY.out.2 rfl HQ.out, fun W k => HI.out.2.trans k⟩
            clear HI HY
            go_wp2_with fail
            go_quiet (fail)
            go_wp2
            go_roundw
            case rel => exact ⟨i + 1, (b : Int), by go_num, rfl, by omega, HE.out.1, HE.out.2 _ ((Kp.refl wr).drewN _)⟩
            case measure => simp [intOf]; omega
      · have HY : Hid (okB true true (l.getD i rk0) = false ∧ i < l.length) := ⟨hok, hil⟩
        clear hok hil
        have HE : Hid (Bsf l true true (i + 1) z ∧ ∀ W, Kp wr W → Kp w W) := ⟨bsf_skip HI.out.1 HY.out.2 HY.out.1, fun W k => HI.out.2.trans k⟩
        clear HI HY
        go_wp2
        go_roundw
        case rel => exact ⟨i + 1, z, by go_num, rfl, by omega, HE.out.1, HE.out.2 _ (Kp.refl wr)⟩
        case measure => simp [intOf]; omega
    · obtain rfl : i = n := by omega
      have HE : Hid (Bst l true true z ∧ Kp w wr) := ⟨bsf_all (by have := HI.out.1; rwa [HN.out] at this), HI.out.2⟩
      clear HI
      go_wp2
      go_ret
      exact ⟨z, rfl, HE.out.1, HE.out.2⟩
theorem rfirst_any {w0 w : World} {a : Nat} {T : List Nat} {R : RS} (h : RX w0 w a T R) (hl : R.L.length ≤ 1000) (dr fr : Bool) : Calls Tryd.prog 63 #[.pointer (some ⟨a, 0, none⟩), .bool dr, .bool fr] w fun e w' => ∃ z, e = .returned (.int .i64 z) ∧ Bst R.L dr fr z ∧ Kp w w' := by
  cases dr <;> cases fr
  · exact rfirst_00 h hl
  · exact rfirst_01 h hl
  · exact rfirst_10 h hl
  · exact rfirst_11 h hl

end Go.Proofs.YtncdidklgpmefaaDoor

namespace Go.Proofs.YtncdidklgpmefaaDoor
open Go.RowKit Plain
set_option linter.unusedVariables false

theorem run_append_rk {w : World} (ty : TypeId) (base : Nat) (v : Value) (l : List RK) (hown : OwR w base v l) (p : RK) (k : Nat) (hc : w.rangeAt k 0 (rc p))
    (hlen : l.length + 1 ≤ 1099511627776) (hbase : base ≤ w.heap.size) : ∃ v' w', (Builtin.append_ #[91, 91] ty #[v, .slice (some ⟨k, 0, none⟩) 1 1]).run Tryd.prog w = .ok v' w' ∧ OwR w' base v' (l ++ [p]) ∧ w.grownBy w' v.ownBlock ∧ (v'.ownBlock = v.ownBlock ∨ v'.ownBlock = some w.heap.size) := by
  obtain ⟨i0, hi, hz0, hz1, hz2⟩ := info_parts info_rk
  obtain ⟨v', w', hr, h1, h2, _, h3⟩ := run_append_own_at (P := Tryd.prog) w base 91 ty 111 i0 rkZ 4 24 Tryd.underlying91 hi hz0 hz1 hz2 rfl (by decide) v l.length (rv l) hown ⟨k, 0, none⟩ 1 1 (rc p) rfl (by
    intro j u hj
    rw [Addr.add_lit]
    exact hc j u hj) (by simp [rc, Value.oneCell']) (by unfold maxLen; omega) (by omega) hbase
  refine ⟨v', w', hr, ?_, h2, h3⟩
  unfold OwR
  rw [List.length_append, rv_app]
  have : rv [p] = rc p := by simp [rv]
  rw [this]
  exact h1
theorem step_append_run {ops : Array Oper} {o : Oper} {a : Act} {w : World} {K : Act → World → Prop} {Q : Exit → Act → World → Prop} {E : Prop} (hgd : o.guard = none) (s x : Operand) (t : TypeId)
    (ho : o.op = .call { callee := .builtin .append, args := #[s, x], argTypes := #[t, t] }) (v vx : Value) (hs : a.eval s = v) (hx : a.eval x = vx) {v' : Value} {w' : World}
    (hrun : (Builtin.append_ #[t, t] o.type #[v, vx]).run Tryd.prog w = .ok v' w') (cont : K (a.put o.dst v') w') :
    if Region.wanted o (yielded ops a.tmps) = true then Oper.wp Tryd.prog o a w K Q else E := by
  have hw : Region.wanted o (yielded ops a.tmps) = true := by simp [Region.wanted, hgd]
  rw [if_pos hw]
  unfold Oper.wp
  simp [execOp, ho, resolve, invoke, builtin, hs, hx, hrun, Result.andThen]
  exact cont
theorem OwR.slc {w : World} {base : Nat} {v : Value} {l : List RK} (h : OwR w base v l) : ∃ p n c, v = .slice p n c := by
  obtain ⟨p, c, rfl, _⟩ := h.shape
  exact ⟨_, _, _, rfl⟩
/-- behind a call of the document's: its state, and what it is beside. -/
def Rz (w0 w w' : World) (a : Nat) (T : List Nat) (S' : TS) (c : Int) : Prop := ∃ R', Rl S' R' ∧ 0 ≤ R'.c ∧ R'.c ≤ c ∧ Nz RX w0 w w' a T R'
theorem fr_in {S : TS} {R : RS} (hr : Rl S R) {k z : Int} (h : Fr R.L k z) : (z = -1 ∧ inT S k = false) ∨ (0 ≤ z ∧ inT S k = true ∧ ∃ A y B, R.L = A ++ y :: B ∧ z = (A.length : Int) ∧ y.n = k) := by
  rcases h with ⟨rfl, h⟩ | ⟨A, y, B, e, rfl, h, _⟩
  · exact .inl ⟨rfl, in_not.2 (fun hm => by obtain ⟨x, hx, e⟩ := (hr.mem k).2 hm; exact h x hx e)⟩
  · exact .inr ⟨by omega, in_iff.2 ((hr.mem k).1 ⟨y, by rw [e]; simp, h⟩), A, y, B, e, rfl, h⟩
set_option maxRecDepth 100000 in
set_option maxHeartbeats 4000000 in
theorem radd_any {w0 w : World} {a : Nat} {T : List Nat} {S : TS} {R : RS} (h : RX w0 w a T R) (hr : Rl S R) (hg : Gd S) (hc0 : 0 ≤ R.c) (hcm : R.c ≤ 100000) (k : Int) : Calls Tryd.prog 61 #[.pointer (some ⟨a, 0, none⟩), .int .i64 k] w fun e w' => e = .returned (.int .i64 (adE S k)) ∧ Rz w0 w w' a T (adS S k) (R.c + 1) := by
  have hlen := hr.len
  have hl : R.L.length ≤ 64 := by have := hg.len; have := hg.m2; omega
  have hF := rfind_any h (by omega) k
  have HH := hid (And.intro h (And.intro hr hg))
  clear h hr hg
  go_enter Tryd.func61, Tryd.ntmps61
  go_wp2_with fail
  refine hF.mono ?_; rintro e w1 ⟨z, rfl, hz, rfl⟩
  clear hF
  rcases fr_in HH.out.2.1 hz with ⟨rfl, hin⟩ | ⟨hz0, hin, _⟩
  · obtain ⟨v, hT, hB⟩ := HH.out.1
    obtain ⟨c0, c1, c2, c3, cf⟩ := hB.cells
    obtain ⟨p, c, hvs, q1, q2⟩ := hB.o.shape
    obtain ⟨n, hn⟩ : ∃ n, n = R.L.length := ⟨_, rfl⟩
    rw [hvs, ← hn] at c2
    rw [← hn] at q1
    have hM : R.M = S.M := HH.out.2.1.M
    have HB := hid (And.intro hT (And.intro hB (And.intro hvs (And.intro hn hin))))
    obtain ⟨m, hm⟩ : ∃ m, m = R.M := ⟨_, rfl⟩
    have HMm := hid (hm.trans hM)
    rw [← hm] at c0
    rw [← hn] at hl
    have hnm : (n : Int) = (S.P.length : Int) + (S.D.length : Int) := by omega
    have HNM := hid hnm
    clear hT hB hvs hn hin hM hm hnm hlen hz
    by_cases hf : m ≤ (n : Int)
    · have hd : decide (m ≤ (n : Int)) = true := by simp [hf]
      have HE : Hid (adE S k = 10 ∧ adS S k = S) := by
        have e1 : adE S k = 10 := by
          unfold adE
          rw [HB.out.2.2.2.2, if_neg (by decide), if_pos (by rw [← HMm.out, ← HNM.out]; exact hf)]
        exact ⟨e1, ad_no (by rw [e1]; decide)⟩
      clear hf
      go_wp2_with fail
      go_quiet (fail)
      go_wp2
      go_ret
      refine ⟨by rw [HE.out.1]; rfl, R, ?_, hc0, by omega, Nz.of OL.rx HH.out.1 ((Kp.refl _).drewN _)⟩
      rw [HE.out.2]
      exact HH.out.2.1
    · have hd : decide (m ≤ (n : Int)) = false := by simp; omega
      have HE : Hid (adE S k = 0) := ad_iff.2 ⟨in_not.1 HB.out.2.2.2.2, by rw [← HMm.out, ← HNM.out]; omega⟩
      clear hf
      go_wp2_with fail
      go_quiet (fail)
      rename_i nq
      obtain ⟨w2, hw2⟩ : ∃ w2, w2 = w1.drewN nq := ⟨_, rfl⟩
      rw [← hw2]
      have k2 : Kp w1 w2 := by rw [hw2]; exact (Kp.refl w1).drewN _
      have hB2 := HB.out.2.1.kept k2
      obtain ⟨cc, hcc⟩ : ∃ c, c = R.c := ⟨_, rfl⟩
      obtain ⟨W, hW⟩ : ∃ W, W = w2.drew.alloc (.cells #[.int .i64 k, .bool false, .bool false, .int .i64 cc] 111) := ⟨_, rfl⟩
      have kW : Kp w2 W := by rw [hW]; exact ((Kp.refl w2).drew).alloc _
      have hit : W.rangeAt w2.heap.size 0 (rc ⟨k, false, false, cc⟩) := by rw [hW]; exact lit_rk w2.drew ⟨k, false, false, cc⟩ _ _ rfl
      have hBW := hB2.kept kW
      obtain ⟨v', w4, hrun, o1, o2, o3⟩ := run_append_rk (w := W) 91 w0.heap.size v R.L hBW.o ⟨k, false, false, cc⟩ w2.heap.size hit (by have := HB.out.2.2.2.1; omega) hBW.sz
      obtain ⟨p', n', c', hvs'⟩ := o1.slc
      have s4 := grown_sp o2
      obtain ⟨i1, i2, i3⟩ := hBW.setL s4 o1 (o3.elim .inl (fun h => .inr (fun N hN => by rw [h] at hN; cases hN; exact Nat.le_refl _)))
      have hh1 := (s4.block a (heap_lt hBW.h) (fun e => hBW.va (by simpa using e))).trans hBW.h
      have d0 : w4.cell? ⟨a, 2, none⟩ = some v := cell_of hh1 2
      have f0 := frozen_of hh1 2
      obtain ⟨W5, hW5⟩ : ∃ W5, W5 = w4.setCell ⟨a, 2, none⟩ v' := ⟨_, rfl⟩
      rw [← hW5] at i1 i2
      have HI := hid (And.intro i1 (And.intro i2 (And.intro i3 (And.intro ((k2.trans kW)) hcc))))
      have y2 : W5.cell? ⟨a, 3, none⟩ = some (.int .i64 cc) := by rw [hcc]; exact i1.cells.2.2.2.1
      have yf2 := i1.cells.2.2.2.2 3
      obtain ⟨_, _, c2a, c3a, fa⟩ := hB2.cells
      have fa2 := fa 2
      rw [HB.out.2.2.1, ← HB.out.2.2.2.1] at hrun c2a d0
      rw [← hcc] at c3a
      rw [hvs'] at hrun hW5
      rw [hW] at hrun
      have c1b : (w2.drew.alloc (.cells #[.int .i64 k, .bool false, .bool false, .int .i64 cc] 111)).cell? ⟨a, 2, none⟩ = some (.slice p n c) := (((Kp.refl w2).drew).alloc _).held c2a
      have c1c : (w2.alloc (.cells #[.int .i64 k, .bool false, .bool false, .int .i64 cc] 111)).cell? ⟨a, 2, none⟩ = some (.slice p n c) := ((Kp.refl w2).alloc _).held c2a
      have hcb : 0 ≤ cc ∧ cc ≤ 100000 := by rw [hcc]; exact ⟨hc0, hcm⟩
      obtain ⟨hcb1, hcb2⟩ := hcb
      have HW5 := hid hW5
      have mixed : Tryd.prog.follows .mixedOrders = true := by kernel_rfl
      clear hw2 k2 hB2 hcc hW kW hit hBW o1 o2 o3 hvs' s4 i1 i2 i3 hh1 hW5 fa c0 c1 c2 c3 cf hc0 hcm
      go_wp2_with fail
      go_region_law (refine step_append_run rfl _ _ 91 rfl _ _ rfl rfl hrun ?_)
      all_goals
        rw [← HW5.out]
        clear hrun c1b c1c d0 f0 c2a c3a fa2
        go_wp2
        go_ret
        obtain ⟨j1, j2⟩ := HI.out.1.setC (cc + 1)
        refine ⟨by rw [HE.out]; rfl, { R with L := R.L ++ [⟨k, false, false, R.c⟩], c := R.c + 1 }, HH.out.2.1.add HH.out.2.2 HE.out, ?_, Int.le_refl _, ?_⟩
        · show 0 ≤ R.c + 1
          have := HI.out.2.2.2.2; omega
        · rw [HB.out.1]
          refine ⟨_, ⟨v', rfl, ?_⟩, ((HI.out.2.2.2.1.sp _).trans HI.out.2.1).then j2 ((Nw.refl _ _).trans HI.out.2.2.1 HI.out.2.2.2.1.size), (Nw.refl _ _).trans HI.out.2.2.1 HI.out.2.2.2.1.size⟩
          have e5 := HI.out.2.2.2.2
          subst e5
          exact j1
  · have HE : Hid (adE S k = 11 ∧ adS S k = S) := by
      have e1 : adE S k = 11 := by unfold adE; rw [if_pos hin]
      exact ⟨e1, ad_no (by rw [e1]; decide)⟩
    clear hin hz
    have hzd : decide (0 ≤ z) = true := by simp [hz0]
    go_wp2
    go_ret
    refine ⟨by rw [HE.out.1]; rfl, R, ?_, hc0, by omega, Nz.refl HH.out.1⟩
    rw [HE.out.2]
    exact HH.out.2.1

end Go.Proofs.YtncdidklgpmefaaDoor

namespace Go.Proofs.YtncdidklgpmefaaDoor
open Go.RowKit Plain
set_option linter.unusedVariables false

theorem set_mid (A : List RK) (y y' : RK) (B : List RK) : (A ++ y' :: B).length = (A ++ y :: B).length := by simp
set_option maxRecDepth 100000 in
set_option maxHeartbeats 2000000 in
theorem rpin_any {w0 w : World} {a : Nat} {T : List Nat} {S : TS} {R : RS} (h : RX w0 w a T R) (hr : Rl S R) (hg : Gd S) (hc0 : 0 ≤ R.c) (k : Int) (on : Bool) : Calls Tryd.prog 42 #[.pointer (some ⟨a, 0, none⟩), .int .i64 k, .bool on] w fun e w' => e = .returned (.bool (inT S k)) ∧ Rz w0 w w' a T (pnS S k on) R.c := by
  have hlen := hr.len
  have hl : R.L.length ≤ 64 := by have := hg.len; have := hg.m2; omega
  have hF := rfind_any h (by omega) k
  have HH := hid (And.intro h hr)
  clear h hr hg hlen
  go_enter Tryd.func42, Tryd.ntmps42
  go_wp2_with fail
  refine hF.mono ?_; rintro e w1 ⟨z, rfl, hz, rfl⟩
  clear hF
  rcases fr_in HH.out.2 hz with ⟨rfl, hin⟩ | ⟨hz0, hin, A, y, B, e1, rfl, hy⟩
  · have HI := hid hin
    clear hz hin
    go_wp2
    go_ret
    refine ⟨by rw [HI.out]; rfl, R, ?_, hc0, by omega, Nz.refl HH.out.1⟩
    have : pnS S k on = S := by unfold pnS; rw [HI.out, if_neg (by decide)]
    rw [this]
    exact HH.out.2
  · obtain ⟨v, hT, hB⟩ := HH.out.1
    obtain ⟨_, _, c2, _, _⟩ := hB.cells
    obtain ⟨p, c, rfl, q1, q2⟩ := hB.o.shape
    obtain ⟨_, g, hp, _, hcs, hfz⟩ := hB.o.cells
    have hi : A.length < R.L.length := by rw [e1]; simp
    obtain rfl := hp (by omega)
    have d2 := (hcs A.length hi).2.2.1
    have f2 := hfz (A.length * 4 + 2) (by omega)
    have hat : R.L.getD A.length rk0 = y := by rw [e1]; simp [List.getD_eq_getElem?_getD]
    rw [hat] at d2
    obtain ⟨n, hn⟩ : ∃ n, n = R.L.length := ⟨_, rfl⟩
    obtain ⟨i, hi2⟩ : ∃ i, i = A.length := ⟨_, rfl⟩
    have q := hB.setK (l := A ++ { y with p := on } :: B) (A.length * 4 + 2) (.bool on) (by rw [e1]; exact rv_set2 A y B on) (by rw [e1]; exact set_mid A y _ B)
    have HE : Hid (inT S k = true ∧ Rl (pnS S k on) { R with L := A ++ { y with p := on } :: B } ∧ Nz RX w0 w1 (w1.setCell ⟨g, i * 4 + 2, none⟩ (.bool on)) a T { R with L := A ++ { y with p := on } :: B }) := by
      refine ⟨hin, by rw [← hy]; exact HH.out.2.pin e1 on, ?_⟩
      rw [hi2, hT]
      exact ⟨_, ⟨_, rfl, q.1⟩, q.2, Nw.refl _ _⟩
    rw [← hn] at c2 q1 hi hl
    rw [← hi2] at hi d2 f2 ⊢
    have hi3 : (i : Int) < (n : Int) := by omega
    have hi4 : decide ((i : Int) < 0) = false := by simp
    clear hz hin e1 hy hB hT hp hcs hfz hat hn hi2 q hz0
    go_wp2
    go_ret
    exact ⟨by rw [HE.out.1]; rfl, _, HE.out.2.1, hc0, Int.le_refl _, HE.out.2.2⟩

/-! ### Drop -/
theorem era_same (l : List RK) (i : Nat) : (l.take i).eraseIdx i = l.take i := List.eraseIdx_of_length_le (by rw [List.length_take]; omega)
theorem era_next {l : List RK} {i at' : Nat} (h : i < l.length) (hne : i ≠ at') : (l.take (i + 1)).eraseIdx at' = (l.take i).eraseIdx at' ++ [l.getD i rk0] := by
  have hl : (l.take i).length = i := by rw [List.length_take]; omega
  rw [rk_take h]
  by_cases hlt : at' < i
  · rw [List.eraseIdx_append_of_lt_length (by omega)]
  · rw [List.eraseIdx_append_of_length_le (by omega), List.eraseIdx_of_length_le (l := l.take i) (by omega), hl]
    congr 1
    exact List.eraseIdx_of_length_le (by simp; omega)
theorem era_at {l : List RK} {i : Nat} (h : i < l.length) : (l.take (i + 1)).eraseIdx i = (l.take i).eraseIdx i := by
  have hl : (l.take i).length = i := by rw [List.length_take]; omega
  rw [rk_take h, List.eraseIdx_append_of_length_le (by omega), hl, Nat.sub_self, era_same]
  simp
theorem era_mid (A : List RK) (y : RK) (B : List RK) : (A ++ y :: B).eraseIdx A.length = A ++ B := by
  rw [List.eraseIdx_append_of_length_le (by omega), Nat.sub_self]
  rfl
/-- a row of the call's own, new. -/
def One (w0 w : World) (p : Value) (l : List RK) : Prop := OwR w w0.heap.size p l ∧ Kp w0 w
theorem One.grow {w0 w w1 w' : World} {p p' : Value} {l l' : List RK} (h : One w0 w p l) (k : Kp w w1) (hg : w1.grownBy w' p.ownBlock) (ho : OwR w' w0.heap.size p' l') : One w0 w' p' l' :=
  ⟨ho, (h.2.trans k).grown hg (fun q hq => (h.1.lt q hq).1)⟩
set_option maxRecDepth 100000 in
theorem rdrop_no {w0 w : World} {a : Nat} {T : List Nat} {R : RS} (h : RX w0 w a T R) (hl : R.L.length ≤ 64) (k : Int) (hf : ∀ x ∈ R.L, x.n ≠ k) : Calls Tryd.prog 64 #[.pointer (some ⟨a, 0, none⟩), .int .i64 k] w fun e w' => e = .returned (.bool false) ∧ w' = w := by
  have hF := rfind_any h (by omega) k
  have HH := hid hf
  clear h hf
  go_enter Tryd.func64, Tryd.ntmps64
  go_wp2_with fail
  refine hF.mono ?_; rintro e w1 ⟨z, rfl, hz, rfl⟩
  clear hF
  obtain rfl : z = -1 := by
    rcases hz with ⟨h, _⟩ | ⟨A, y, B, e, _, hy, _⟩
    · exact h
    · exact absurd hy (HH.out y (by rw [e]; simp))
  clear hz
  go_wp2
  go_ret
  exact ⟨rfl, rfl⟩
set_option maxRecDepth 100000 in
set_option maxHeartbeats 4000000 in
theorem rdrop_raw {w0 w : World} {a : Nat} {T : List Nat} {R : RS} (h : RX w0 w a T R) (hl : R.L.length ≤ 64) (k : Int) {A B : List RK} {y : RK} (e1 : R.L = A ++ y :: B) (hy : y.n = k) (hf : ∀ x ∈ A, x.n ≠ k) : Calls Tryd.prog 64 #[.pointer (some ⟨a, 0, none⟩), .int .i64 k] w fun e w' => e = .returned (.bool true) ∧ Nz RX w0 w w' a T { R with L := A ++ B } := by
  have hF := rfind_any h (by omega) k
  have HH := hid (And.intro h (And.intro e1 (And.intro hy hf)))
  clear h e1 hy hf
  go_enter Tryd.func64, Tryd.ntmps64
  go_wp2_with fail
  refine hF.mono ?_; rintro e w1 ⟨z, rfl, hz, rfl⟩
  clear hF
  have hzA : z = (A.length : Int) := by
    have e1 := HH.out.2.1
    have hyk := HH.out.2.2.1
    rcases hz with ⟨_, h⟩ | ⟨A2, y2, B2, e2, rfl, hy2, hf2⟩
    · exact absurd hyk (h y (by rw [e1]; simp))
    · rw [e1] at e2
      have hlen : A.length = A2.length := by
        rcases Nat.lt_trichotomy A.length A2.length with h | h | h
        · have : y ∈ A2 := by
            have h3 : (A ++ y :: B)[A.length]? = some y := by simp
            rw [e2, List.getElem?_append_left h] at h3
            exact List.mem_of_getElem? h3
          exact absurd hyk (hf2 y this)
        · exact h
        · have : y2 ∈ A := by
            have h3 : (A2 ++ y2 :: B2)[A2.length]? = some y2 := by simp
            rw [← e2, List.getElem?_append_left h] at h3
            exact List.mem_of_getElem? h3
          exact absurd hy2 (HH.out.2.2.2 y2 this)
      rw [hlen]
  subst hzA
  obtain ⟨v, hT, hB⟩ := HH.out.1
  obtain ⟨_, _, c2, _, _⟩ := hB.cells
  obtain ⟨p, c, hvs, q1, q2⟩ := hB.o.shape
  rw [hvs] at c2
  have hO := hB.o
  rw [hvs] at hO
  obtain ⟨_, g, hp, _, hcs, _⟩ := hO.cells
  obtain ⟨l, hL⟩ : ∃ l, l = R.L := ⟨_, rfl⟩
  rw [← hL] at c2 q1 hp hcs hl
  obtain ⟨n, hn⟩ : ∃ n, n = l.length := ⟨_, rfl⟩
  rw [← hn] at c2 q1 hp hcs hl
  obtain ⟨i, hi⟩ : ∃ i, i = A.length := ⟨_, rfl⟩
  rw [← hi]
  have HN := hid (And.intro hn (And.intro hL (And.intro hi (And.intro hT hB))))
  have HC := hid hcs
  have HP := hid hp
  have HA := hid c2
  have H0 : Hid (One w1 w1 (.slice none 0 0) ((l.take 0).eraseIdx i)) := ⟨by simpa using OwR.nil w1 w1.heap.size, Kp.refl w1⟩
  have hi0 : decide ((i : Int) < 0) = false := by simp
  clear hz hT hB hO hvs hcs hp hL hn hi
  go_wp2
  clear c2
  go_loopw [6, 7] (fun q x wr => ∃ (j : Nat) (q' : Value), x = .int .i64 j ∧ q' = q ∧ j ≤ n ∧ Hid (One w1 wr q' ((l.take j).eraseIdx i))) (fun _ x _ => n - (intOf x).toNat)
  case atStart => exact ⟨0, _, rfl, rfl, by omega, H0⟩
  case round =>
    clear H0
    obtain ⟨j, q, rfl, rfl, hj, HT⟩ := hrel
    rename World => wr
    have c2 := HT.out.2.held HA.out
    by_cases hjn : j < n
    · obtain rfl := HP.out (by omega)
      have hjn2 : (j : Int) < (n : Int) := by omega
      have hjl : j < l.length := by have := HN.out.1; omega
      by_cases hji : j = i
      · have hd : ((j : Int) != (i : Int)) = false := by simp [hji]
        have HT2 : Hid (One w1 wr q ((l.take (j + 1)).eraseIdx i)) := by
          have q0 := HT.out
          rw [hji] at hjl q0 ⊢
          rw [era_at hjl]
          exact q0
        clear hji HT
        go_wp2
        go_roundw
        case rel => exact ⟨j + 1, _, by go_num, rfl, by omega, HT2⟩
        case measure => simp [intOf]; omega
      · have hd : ((j : Int) != (i : Int)) = true := by simp; omega
        have HE : Hid ((l.take (j + 1)).eraseIdx i = (l.take j).eraseIdx i ++ [l.getD j rk0]) := era_next hjl hji
        have HLn : Hid (((l.take j).eraseIdx i).length ≤ 1000) := by
          have := List.length_eraseIdx_le (l.take j) i
          rw [List.length_take] at this
          show _ ≤ 1000
          omega
        obtain ⟨d0, d1, d2, d3⟩ := HC.out j hjn
        have d0 := HT.out.2.held d0
        have d1 := HT.out.2.held d1
        have d2 := HT.out.2.held d2
        have d3 := HT.out.2.held d3
        obtain ⟨x, hx⟩ : ∃ x, x = l.getD j rk0 := ⟨_, rfl⟩
        rw [← hx] at d0 d1 d2 d3 HE
        clear hx hji
        go_wp2_with (at_builtin; refine wpList_append_rk rfl _ _ rfl w1.heap.size _ ((l.take j).eraseIdx i) rfl (HT.out.1.kept ((Kp.refl _).alloc _)) x _ rfl (lit_rk wr x _ _ rfl) (by have := HLn.out; omega) (by have := HT.out.2.size; simp; omega) ?_; intro u2 w2 ho2 hg2 hr2; have HT1 := hid (HT.out.grow ((Kp.refl wr).alloc (.cells #[.int .i64 x.n, .bool x.d, .bool x.p, .int .i64 x.w] 111)) hg2 ho2); clear ho2 hg2 hr2)
        have HT3 : Hid (One w1 w2 u2 ((l.take (j + 1)).eraseIdx i)) := by rw [HE.out]; exact HT1.out
        clear HT1 HT HE HLn d0 d1 d2 d3
        go_roundw
        case rel => exact ⟨j + 1, _, by go_num, rfl, by omega, HT3⟩
        case measure => simp [intOf]; omega
    · obtain rfl : j = n := by omega
      have hT1 : l.take j = l := List.take_of_length_le (by have := HN.out.1; omega)
      have hq := HT.out
      rw [hT1] at hq
      obtain ⟨hn, hL, hi, hTT, hB⟩ := HN.out
      have hel : l.eraseIdx i = A ++ B := by rw [hL, HH.out.2.1, hi]; exact era_mid A y B
      rw [hel] at hq
      obtain ⟨o1, k1⟩ := hq
      obtain ⟨i1, i2, i3⟩ := hB.setL (w2 := wr) (k1.sp _) (o1.mono hB.sz) (.inr (fun N hN => (o1.lt N hN).1))
      have fz := (hB.kept k1).cells.2.2.2.2 2
      obtain ⟨pq, nq, cq, rfl⟩ := o1.slc
      have HE : Hid (Nz RX w0 w1 (wr.setCell ⟨a, 2, none⟩ (.slice pq nq cq)) a T { R with L := A ++ B }) := by
        rw [hTT]
        exact ⟨_, ⟨_, rfl, i1⟩, i2, i3⟩
      clear hT1 hn hL hi hTT hB hel o1 k1 i1 i2 i3 HT
      go_wp2
      go_ret
      exact ⟨rfl, HE.out⟩
theorem rdrop_any {w0 w : World} {a : Nat} {T : List Nat} {S : TS} {R : RS} (h : RX w0 w a T R) (hr : Rl S R) (hg : Gd S) (hc0 : 0 ≤ R.c) (k : Int) : Calls Tryd.prog 64 #[.pointer (some ⟨a, 0, none⟩), .int .i64 k] w fun e w' => e = .returned (.bool (inT S k)) ∧ Rz w0 w w' a T (drS S k) R.c := by
  have hlen := hr.len
  have hl : R.L.length ≤ 64 := by have := hg.len; have := hg.m2; omega
  cases hi : inT S k with
  | true =>
    have hm := (hr.mem k).2 (in_iff.1 hi)
    obtain ⟨A, y, B, e1, hy, hf⟩ : ∃ A y B, R.L = A ++ y :: B ∧ y.n = k ∧ ∀ x ∈ A, x.n ≠ k := by
      obtain ⟨x, hx, e⟩ := hm
      obtain ⟨A, B, e1⟩ := List.append_of_mem hx
      obtain ⟨_, _, q, _⟩ := hr.h
      refine ⟨A, x, B, e1, e, fun x2 hx2 e2 => q.off e1 (List.mem_map.2 ⟨x2, List.mem_append_left _ hx2, by rw [e2, e]⟩)⟩
    refine (rdrop_raw h hl k e1 hy hf).mono ?_
    rintro e w' ⟨rfl, z⟩
    exact ⟨rfl, { R with L := A ++ B }, by rw [← hy]; exact hr.drop e1, hc0, Int.le_refl _, z⟩
  | false =>
    have hno : ∀ x ∈ R.L, x.n ≠ k := fun x hx e => in_not.1 hi ((hr.mem k).1 ⟨x, hx, e⟩)
    refine (rdrop_no h hl k hno).mono ?_
    rintro e w' ⟨rfl, rfl⟩
    refine ⟨rfl, R, ?_, hc0, Int.le_refl _, Nz.refl h⟩
    have : drS S k = S := by unfold drS; rw [hi, if_neg (by decide)]
    rw [this]
    exact hr

end Go.Proofs.YtncdidklgpmefaaDoor

namespace Go.Proofs.YtncdidklgpmefaaDoor
open Go.RowKit Plain
set_option linter.unusedVariables false

/-- a key's mark and time stored, and the clock moved on. -/
theorem RB.mark {w0 w : World} {a g n c : Nat} {R : RS} (hB : RB w0 w a (.slice (some ⟨g, 0, none⟩) n c) R) {A B : List RK} {y : RK} (e1 : R.L = A ++ y :: B) (d : Bool) :
    ((w.cell? ⟨g, A.length * 4 + 1, none⟩).isSome = true ∧ w.frozen? ⟨g, A.length * 4 + 1, none⟩ = false) ∧
    ((w.setCell ⟨g, A.length * 4 + 1, none⟩ (.bool d)).cell? ⟨a, 2, none⟩ = some (.slice (some ⟨g, 0, none⟩) n c) ∧ (w.setCell ⟨g, A.length * 4 + 1, none⟩ (.bool d)).cell? ⟨a, 3, none⟩ = some (.int .i64 R.c) ∧ (w.setCell ⟨g, A.length * 4 + 1, none⟩ (.bool d)).cell? ⟨g, A.length * 4 + 3, none⟩ = some (.int .i64 y.w) ∧ (w.setCell ⟨g, A.length * 4 + 1, none⟩ (.bool d)).frozen? ⟨g, A.length * 4 + 3, none⟩ = false) ∧
    (((w.setCell ⟨g, A.length * 4 + 1, none⟩ (.bool d)).setCell ⟨g, A.length * 4 + 3, none⟩ (.int .i64 R.c)).drew.cell? ⟨a, 3, none⟩ = some (.int .i64 R.c) ∧ ((w.setCell ⟨g, A.length * 4 + 1, none⟩ (.bool d)).setCell ⟨g, A.length * 4 + 3, none⟩ (.int .i64 R.c)).drew.frozen? ⟨a, 3, none⟩ = false) ∧
    RB w0 (((w.setCell ⟨g, A.length * 4 + 1, none⟩ (.bool d)).setCell ⟨g, A.length * 4 + 3, none⟩ (.int .i64 R.c)).setCell ⟨a, 3, none⟩ (.int .i64 (R.c + 1))).drew a (.slice (some ⟨g, 0, none⟩) n c) { R with L := A ++ { y with d := d, w := R.c } :: B, c := R.c + 1 } ∧
    Sp (a :: (Value.slice (some ⟨g, 0, none⟩) n c).ownBlock.toList) w (((w.setCell ⟨g, A.length * 4 + 1, none⟩ (.bool d)).setCell ⟨g, A.length * 4 + 3, none⟩ (.int .i64 R.c)).setCell ⟨a, 3, none⟩ (.int .i64 (R.c + 1))).drew := by
  have hi : A.length < R.L.length := by rw [e1]; simp
  obtain ⟨hn, g', hp, _, hcs, hfz⟩ := hB.o.cells
  have hg : (⟨g, 0, none⟩ : Addr) = ⟨g', 0, none⟩ := by have := hp (by omega); simpa using this
  obtain rfl : g = g' := by cases hg; rfl
  obtain ⟨_, d1, _, d3⟩ := hcs A.length (by omega)
  have q1 := hB.setK (l := A ++ { y with d := d } :: B) (A.length * 4 + 1) (.bool d) (by rw [e1]; exact rv_set1 A y B d) (by rw [e1]; exact set_mid A y _ B)
  have b1 := q1.1
  obtain ⟨_, g1, hp1, _, hcs1, hfz1⟩ := b1.o.cells
  have hg1 : (⟨g, 0, none⟩ : Addr) = ⟨g1, 0, none⟩ := by have := hp1 (by omega); simpa using this
  obtain rfl : g = g1 := by cases hg1; rfl
  have q2 := b1.setK (l := A ++ { y with d := d, w := R.c } :: B) (A.length * 4 + 3) (.int .i64 R.c) (rv_set3 A { y with d := d } B R.c) (set_mid A { y with d := d } { y with d := d, w := R.c } B)
  have b2 := q2.1
  have q3 := b2.setC (R.c + 1)
  have hat : (A ++ { y with d := d } :: B).getD A.length rk0 = { y with d := d } := by simp [List.getD_eq_getElem?_getD]
  refine ⟨⟨by rw [d1]; rfl, hfz _ (by omega)⟩, ⟨b1.cells.2.2.1, b1.cells.2.2.2.1, ?_, hfz1 _ (by omega)⟩, ⟨b2.cells.2.2.2.1, b2.cells.2.2.2.2 3⟩, q3.1.kept ((Kp.refl _).drew), ?_⟩
  · have := (hcs1 A.length (by omega)).2.2.2
    rw [hat] at this
    exact this
  · exact ((q1.2.trans q2.2).trans q3.2).trans (((Kp.refl _).drew).sp _)
set_option maxRecDepth 100000 in
set_option maxHeartbeats 8000000 in
theorem rtouch_any {w0 w : World} {a : Nat} {T : List Nat} {S : TS} {R : RS} (h : RX w0 w a T R) (hr : Rl S R) (hg : Gd S) (hc0 : 0 ≤ R.c) (hcm : R.c ≤ 100000) (k : Int) : Calls Tryd.prog 40 #[.pointer (some ⟨a, 0, none⟩), .int .i64 k] w fun e w' => e = .returned (.bool (inT S k)) ∧ Rz w0 w w' a T (toS S k) (R.c + 2) := by
  have hlen := hr.len
  have hl : R.L.length ≤ 64 := by have := hg.len; have := hg.m2; omega
  have hF := rfind_any h (by omega) k
  have HH := hid (And.intro h (And.intro hr (And.intro hc0 hcm)))
  clear h hr hg hlen
  go_enter Tryd.func40, Tryd.ntmps40
  go_wp2_with fail
  refine hF.mono ?_; rintro e w1 ⟨z, rfl, hz, rfl⟩
  clear hF
  rcases fr_in HH.out.2.1 hz with ⟨rfl, hin⟩ | ⟨hz0, hin, A, y, B, e1, rfl, hy⟩
  · have HI := hid hin
    clear hz hin
    go_wp2
    go_ret
    refine ⟨by rw [HI.out]; rfl, R, ?_, hc0, by omega, Nz.refl HH.out.1⟩
    have : toS S k = S := by unfold toS; rw [HI.out, if_neg (by decide)]
    rw [this]
    exact HH.out.2.1
  · obtain ⟨v, hT, hB⟩ := HH.out.1
    obtain ⟨p, c, rfl, q1, q2⟩ := hB.o.shape
    obtain ⟨_, g, hp, _⟩ := hB.o.cells
    have hi : A.length < R.L.length := by rw [e1]; simp
    obtain rfl := hp (by omega)
    obtain ⟨_, c1, c2, _, _⟩ := hB.cells
    obtain ⟨⟨m1, m2⟩, ⟨m3, m4, m5, m6⟩, ⟨m7, m8⟩, b3, s3⟩ := hB.mark e1 true
    obtain ⟨n, hn⟩ : ∃ n, n = R.L.length := ⟨_, rfl⟩
    obtain ⟨i, hi2⟩ : ∃ i, i = A.length := ⟨_, rfl⟩
    obtain ⟨cc, hcc⟩ : ∃ c, c = R.c := ⟨_, rfl⟩
    obtain ⟨m0, m1⟩ := Option.isSome_iff_exists.1 m1
    rw [← hi2] at m1 m2 m3 m4 m5 m6 m7 m8 b3 s3
    rw [← hcc] at m4 m7 m8 b3 s3
    rw [← hn] at m3 c2 q1 hi hl
    rw [← hi2] at hi ⊢
    obtain ⟨W3, hW3⟩ : ∃ W, W = (((w1.setCell ⟨g, i * 4 + 1, none⟩ (.bool true)).setCell ⟨g, i * 4 + 3, none⟩ (.int .i64 cc)).setCell ⟨a, 3, none⟩ (.int .i64 (cc + 1))).drew := ⟨_, rfl⟩
    rw [← hW3] at b3 s3
    obtain ⟨R3, hR3⟩ : ∃ R3, R3 = { R with L := A ++ { y with d := true, w := cc } :: B, c := cc + 1 } := ⟨_, rfl⟩
    rw [← hR3] at b3
    have hr3 : Rl (dcS (tkS S k) k) R3 := by rw [hR3, hcc, ← hy]; exact HH.out.2.1.dc e1
    have hc3 : R3.c = cc + 1 := by rw [hR3]
    have hl3 : R3.L.length ≤ 64 := by rw [hR3]; show (A ++ _ :: B).length ≤ 64; rw [set_mid A y _ B, ← e1, ← hn]; exact hl
    obtain ⟨S2, hS2⟩ : ∃ S2, S2 = dcS (tkS S k) k := ⟨_, rfl⟩
    rw [← hS2] at hr3
    have hto : toS S k = bkS S2 := by rw [hS2]; unfold toS; rw [hin, if_pos rfl]
    have hcb : 0 ≤ cc ∧ cc ≤ 100000 := by rw [hcc]; exact ⟨hc0, hcm⟩
    obtain ⟨hcb1, hcb2⟩ := hcb
    have hD := rdear_any ⟨_, rfl, b3⟩ (by omega)
    rw [hr3.dear] at hD
    have H3 := hid (And.intro b3 (And.intro s3 (And.intro hr3 (And.intro hto (And.intro hin (And.intro hT (And.intro hc3 (And.intro hl3 hcc))))))))
    have HS2 : Hid (∃ f r, S2.D = f :: r) := by
      show ∃ f r, S2.D = f :: r
      rw [hS2]
      show ∃ f r, (tkS S k).D ++ [k] = f :: r
      cases (tkS S k).D with
      | nil => exact ⟨_, _, rfl⟩
      | cons x l => exact ⟨_, _, rfl⟩
    have HZ : Hid (R3.Z = S2.Z) := hr3.Z
    have hi3 : (i : Int) < (n : Int) := by omega
    have hi4 : decide ((i : Int) < 0) = false := by simp
    have HW3 := hid hW3
    clear hz hin e1 hy hB hT hp hn hi2 hcc hW3 hR3 hr3 hS2 hto hc0 hcm hz0 hc3 hl3 b3 s3
    go_wp2_with fail
    go_region
    go_upto_region 7 with fail
    rw [← HW3.out]
    clear m1 m2 m3 m4 m5 m6 m7 m8 HW3 c1 c2
    go_wp2_with fail
    refine hD.mono ?_; rintro e w4 ⟨rfl, rfl⟩
    clear hD
    obtain ⟨_, c1, c2, _, _⟩ := H3.out.1.cells
    obtain ⟨dl, hdl⟩ : ∃ n, n = S2.D.length := ⟨_, rfl⟩
    rw [← hdl]
    have HDL := hid hdl
    obtain ⟨zz, hzz⟩ : ∃ z, z = R3.Z := ⟨_, rfl⟩
    rw [← hzz] at c1
    have HZZ : Hid (zz = S2.Z) := hzz.trans HZ.out
    clear hdl hzz HZ
    by_cases hlt : zz < (dl : Int)
    · have hd : decide (zz < (dl : Int)) = true := by simp [hlt]
      have hFs := rfirst_any ⟨_, rfl, H3.out.1⟩ (by have := H3.out.2.2.2.2.2.2.2.1; omega) true false
      have HLT := hid hlt
      clear hlt
      go_wp2_with fail
      refine hFs.mono ?_; rintro e w5 ⟨z, rfl, hz, k5⟩
      clear hFs
      obtain ⟨PL, DL, hSd, hP, hDD⟩ := H3.out.2.2.1.h
      obtain ⟨f, r, hfr⟩ := HS2.out
      obtain ⟨x, DL1, hDL⟩ : ∃ x DL1, DL = x :: DL1 := by
        cases DL with
        | nil => rw [hfr] at hDD; simp at hDD
        | cons x l => exact ⟨x, l, rfl⟩
      have hxd : x.d = true := hSd.fd x (by rw [hDL]; simp)
      obtain ⟨j, rfl, hj, hjx⟩ := bst_get hSd hz (A := []) (B := DL1) (x := x) (by show DL = _; rw [hDL]; rfl) (by simp) (by unfold okB; rw [hxd]; rfl)
      have hxn : S2.D = x.n :: r := by
        rw [hDL, hfr] at hDD
        simp at hDD
        rw [hfr, hDD.1]
      have e3 := rk_at hj
      rw [hjx] at e3
      have hjl : (R3.L.take j).length = j := by rw [List.length_take]; omega
      have b5 := H3.out.1.kept k5
      have hB5 := b5.mark e3 false
      rw [hjl] at hB5
      obtain ⟨⟨m1, m2⟩, ⟨m3, m4, m5, m6⟩, ⟨m7, m8⟩, b6, s6⟩ := hB5
      obtain ⟨m0', m1⟩ := Option.isSome_iff_exists.1 m1
      have hbk := H3.out.2.2.1.bk e3 hxn (by rw [← HZZ.out, ← HDL.out]; exact HLT.out)
      obtain ⟨_, _, c2, _, _⟩ := b5.cells
      have hnR := H3.out.1.o.cells.1
      obtain ⟨n3, hn3⟩ : ∃ x, x = R.L.length := ⟨_, rfl⟩
      rw [← hn3] at c2 m3 hnR
      have hn64 : n3 ≤ 64 := by have := H3.out.2.2.2.2.2.2.2.1; omega
      have hj3 : (j : Int) < (n3 : Int) := by omega
      have hj4 : decide ((j : Int) < 0) = false := by simp
      have hc3 := H3.out.2.2.2.2.2.2.1
      obtain ⟨c3, hc33⟩ : ∃ x, x = R3.c := ⟨_, rfl⟩
      rw [← hc33] at m4 m7 m8 b6 s6
      have hcb3 : 0 ≤ c3 ∧ c3 ≤ 100001 := by rw [hc33, hc3]; omega
      obtain ⟨hcb3a, hcb3b⟩ := hcb3
      have HE : Hid (inT S k = true ∧ Rz w0 w1 (((w5.setCell ⟨g, j * 4 + 1, none⟩ (.bool false)).setCell ⟨g, j * 4 + 3, none⟩ (.int .i64 c3)).setCell ⟨a, 3, none⟩ (.int .i64 (c3 + 1))).drew a T (toS S k) (R.c + 2)) := by
        refine ⟨H3.out.2.2.2.2.1, _, by rw [H3.out.2.2.2.1]; exact hbk, ?_, ?_, ?_⟩
        · show 0 ≤ R3.c + 1; omega
        · show R3.c + 1 ≤ R.c + 2; have := H3.out.2.2.2.2.2.2.2.2; omega
        · rw [H3.out.2.2.2.2.2.1]
          rw [hc33] at b6 s6 ⊢
          exact ⟨_, ⟨_, rfl, b6⟩, (H3.out.2.1.trans (k5.sp _)).trans s6, Nw.refl _ _⟩
      clear hz k5 hSd hP hDD hfr hDL hxd hj hjx hxn e3 hjl b5 b6 s6 hbk hnR hn3 hc3 hc33 HS2 HLT H3 HH HDL HZZ
      go_wp2_with fail
      go_region
      go_wp2
      go_ret
      exact ⟨by rw [HE.out.1]; rfl, HE.out.2⟩
    · have hd : decide (zz < (dl : Int)) = false := by simp; omega
      have HE : Hid (inT S k = true ∧ Rz w0 w1 w4 a T (toS S k) (R.c + 2)) := by
        have e0 : bkS S2 = S2 := by
          unfold bkS
          split
          · rfl
          · rw [if_neg (by rw [← HZZ.out, ← HDL.out]; exact hlt)]
        refine ⟨H3.out.2.2.2.2.1, R3, ?_, ?_, ?_, ?_⟩
        · rw [H3.out.2.2.2.1, e0]; exact H3.out.2.2.1
        · have := H3.out.2.2.2.2.2.2.1; omega
        · have h1 := H3.out.2.2.2.2.2.2.1; have h2 := H3.out.2.2.2.2.2.2.2.2; omega
        · rw [H3.out.2.2.2.2.2.1]
          exact ⟨_, ⟨_, rfl, H3.out.1⟩, H3.out.2.1, Nw.refl _ _⟩
      clear hlt H3 HH HDL HZZ HS2
      go_wp2
      go_ret
      exact ⟨by rw [HE.out.1]; rfl, HE.out.2⟩

end Go.Proofs.YtncdidklgpmefaaDoor

namespace Go.Proofs.YtncdidklgpmefaaDoor
open Go.RowKit Plain
set_option linter.unusedVariables false

theorem split_first (f : RK → Bool) : ∀ l : List RK, (∀ a ∈ l, f a = false) ∨ ∃ A x B, l = A ++ x :: B ∧ (∀ a ∈ A, f a = false) ∧ f x = true
  | [] => .inl (by simp)
  | y :: l => by
    cases hy : f y with
    | true => exact .inr ⟨[], y, l, rfl, by simp, hy⟩
    | false =>
      rcases split_first f l with h | ⟨A, x, B, rfl, h1, h2⟩
      · exact .inl (fun a ha => by rcases List.mem_cons.1 ha with rfl | ha; exact hy; exact h a ha)
      · exact .inr ⟨y :: A, x, B, rfl, fun a ha => by rcases List.mem_cons.1 ha with rfl | ha; exact hy; exact h1 a ha, h2⟩
theorem ok_pin {dr : Bool} {x : RK} (hd : x.d = dr) : okB dr true x = !x.p := by unfold okB; rw [hd]; simp
theorem side_pin {S : TS} {R : RS} (hr : Rl S R) {PL DL : List RK} (h : Sd R.L PL DL) {dr : Bool} {x : RK} (hx : x ∈ side dr PL DL) : S.K x.n = !okB dr true x := by
  obtain ⟨h1, h2⟩ := side_in h hx
  rw [ok_pin h2, hr.pk x h1, Bool.not_not]
set_option maxRecDepth 100000 in
set_option maxHeartbeats 4000000 in
theorem rvictim_any {w0 w : World} {a : Nat} {T : List Nat} {S : TS} {R : RS} (h : RX w0 w a T R) (hr : Rl S R) (hg : Gd S) : Calls Tryd.prog 60 #[.pointer (some ⟨a, 0, none⟩)] w fun e w' => e = .returned (.tuple #[.int .i64 (vcK S), .bool (vcO S).isSome]) ∧ Kp w w' := by
  have hlen := hr.len
  have hl : R.L.length ≤ 64 := by have := hg.len; have := hg.m2; omega
  have hF := rfirst_any h (by omega) false true
  have HH := hid (And.intro h hr)
  obtain ⟨PL, DL, hSd, hP, hD⟩ := hr.h
  have hS1 := split_first (okB false true) PL
  have hS2 := split_first (okB true true) DL
  have HS := hid (And.intro hSd (And.intro hP (And.intro hD (And.intro hS1 hS2))))
  clear h hr hg hlen hSd hP hD hS1 hS2
  go_enter Tryd.func60, Tryd.ntmps60
  go_wp2_with fail
  refine hF.mono ?_; rintro e w1 ⟨z, rfl, hz, k1⟩
  clear hF
  obtain ⟨hSd, hP, hD, hS1, hS2⟩ := HS.out
  rcases hS1 with hn | ⟨A, x, B, e, hA, hx⟩
  · obtain rfl := bst_none hSd hz hn
    have hF := rfirst_any (HH.out.1.kept k1) (by omega) true true
    have K1 := hid k1
    have HN := hid hn
    clear hz hn k1
    go_wp2_with fail
    refine hF.mono ?_; rintro e w2 ⟨z, rfl, hz, k2⟩
    clear hF
    rcases hS2 with hn2 | ⟨A, x, B, e, hA, hx⟩
    · obtain rfl := bst_none hSd hz hn2
      have HE : Hid (vcO S = none ∧ Kp w w2) := by
        refine ⟨vc_miss (fun y hy => ?_), K1.out.trans k2⟩
        rw [← hP, ← hD, ← List.map_append] at hy
        obtain ⟨q, hq, rfl⟩ := List.mem_map.1 hy
        rcases List.mem_append.1 hq with hq | hq
        · rw [side_pin HH.out.2 hSd (dr := false) hq, HN.out q hq]; rfl
        · rw [side_pin HH.out.2 hSd (dr := true) hq, hn2 q hq]; rfl
      clear hz hn2 k2 hSd hP hD HN
      go_wp2
      go_ret2
      refine ⟨?_, HE.out.2⟩
      unfold vcK
      rw [HE.out.1]
      rfl
    · obtain ⟨j, rfl, hj, hjx⟩ := bst_get hSd hz e hA hx
      have HE : Hid (vcO S = some x.n ∧ Kp w w2) := by
        refine ⟨vc_hit (A := (PL ++ A).map RK.n) (B := B.map RK.n) ?_ (fun y hy => ?_) ?_, K1.out.trans k2⟩
        · rw [← hP, ← hD, show DL = A ++ x :: B from e]; simp
        · obtain ⟨q, hq, rfl⟩ := List.mem_map.1 hy
          rcases List.mem_append.1 hq with hq | hq
          · rw [side_pin HH.out.2 hSd (dr := false) hq, HN.out q hq]; rfl
          · rw [side_pin HH.out.2 hSd (dr := true) (by rw [show side true PL DL = A ++ x :: B from e]; simp [hq]), hA q hq]; rfl
        · rw [side_pin HH.out.2 hSd (dr := true) (by rw [show side true PL DL = A ++ x :: B from e]; simp), hx]; rfl
      obtain ⟨v, hT, hB⟩ := HH.out.1.kept (K1.out.trans k2)
      obtain ⟨_, _, c2, _, _⟩ := hB.cells
      obtain ⟨p, c, rfl, q1, q2⟩ := hB.o.shape
      obtain ⟨_, g, hp, _, hcs, _⟩ := hB.o.cells
      obtain rfl := hp (by omega)
      have d0 := (hcs j hj).1
      rw [hjx] at d0
      obtain ⟨n, hn⟩ : ∃ n, n = R.L.length := ⟨_, rfl⟩
      rw [← hn] at c2 q1 hj hl
      have hj3 : (j : Int) < (n : Int) := by omega
      have hj4 : decide ((j : Int) < 0) = false := by simp
      clear hz k2 hSd hP hD HN e hA hx hjx hT hB hp hcs hn
      go_wp2
      go_ret2
      refine ⟨?_, HE.out.2⟩
      unfold vcK
      rw [HE.out.1]
      rfl
  · obtain ⟨j, rfl, hj, hjx⟩ := bst_get hSd hz (dr := false) (by show PL = _; exact e) hA hx
    have HE : Hid (vcO S = some x.n ∧ Kp w w1) := by
      refine ⟨vc_hit (A := A.map RK.n) (B := (B ++ DL).map RK.n) ?_ (fun y hy => ?_) ?_, k1⟩
      · rw [← hP, ← hD, e]; simp
      · obtain ⟨q, hq, rfl⟩ := List.mem_map.1 hy
        rw [side_pin HH.out.2 hSd (dr := false) (by show q ∈ PL; rw [e]; simp [hq]), hA q hq]; rfl
      · rw [side_pin HH.out.2 hSd (dr := false) (by show x ∈ PL; rw [e]; simp), hx]; rfl
    obtain ⟨v, hT, hB⟩ := HH.out.1.kept k1
    obtain ⟨_, _, c2, _, _⟩ := hB.cells
    obtain ⟨p, c, rfl, q1, q2⟩ := hB.o.shape
    obtain ⟨_, g, hp, _, hcs, _⟩ := hB.o.cells
    obtain rfl := hp (by omega)
    have d0 := (hcs j hj).1
    rw [hjx] at d0
    obtain ⟨n, hn⟩ : ∃ n, n = R.L.length := ⟨_, rfl⟩
    rw [← hn] at c2 q1 hj hl
    have hj3 : (j : Int) < (n : Int) := by omega
    have hj4 : decide ((j : Int) < 0) = false := by simp
    clear hz k1 hSd hP hD e hA hx hjx hT hB hp hcs hn hS2
    go_wp2
    go_ret2
    refine ⟨?_, HE.out.2⟩
    unfold vcK
    rw [HE.out.1]
    rfl

end Go.Proofs.YtncdidklgpmefaaDoor
