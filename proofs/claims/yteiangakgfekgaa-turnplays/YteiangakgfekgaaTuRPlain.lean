/-
  The document's turn as plain data (RS): keys with what they are, and how it stands beside a turn (Rl). Plain facts; no condition.
-/
import Derived.Test.YteiangakgfekgaaTuRun
namespace Go.Proofs.Yteiangakgfekgaa
open Go.RowKit Plain
set_option linter.unusedVariables false

/-- a key: itself, is it dear, pinned, when did it come to its row. -/
structure RK where
  n : Int
  d : Bool
  p : Bool
  w : Int
def rk0 : RK := ⟨0, false, false, 0⟩
structure RS where
  M : Int
  Z : Int
  L : List RK
  c : Int
/-- keys in order: the plain ones PL, the dear ones DL. -/
structure Sd (L PL DL : List RK) : Prop where
  pm : (PL ++ DL).Perm L
  fp : ∀ x ∈ PL, x.d = false
  fd : ∀ x ∈ DL, x.d = true
  sp : PL.Pairwise (fun x y => x.w < y.w)
  sd : DL.Pairwise (fun x y => x.w < y.w)
  nd : (L.map RK.n).Nodup
/-- the document's turn beside a turn. -/
structure Rl (S : TS) (R : RS) : Prop where
  M : R.M = S.M
  Z : R.Z = S.Z
  h : ∃ PL DL, Sd R.L PL DL ∧ PL.map RK.n = S.P ∧ DL.map RK.n = S.D
  cw : ∀ x ∈ R.L, x.w < R.c
  pk : ∀ x ∈ R.L, S.K x.n = x.p
theorem Rl.new (M Z : Int) : Rl (newT M Z) ⟨M, Z, [], 0⟩ := ⟨rfl, rfl, ⟨[], [], ⟨List.Perm.refl _, by simp, by simp, List.Pairwise.nil, List.Pairwise.nil, by simp⟩, rfl, rfl⟩, by simp, by simp⟩
theorem Rl.len {S : TS} {R : RS} (h : Rl S R) : R.L.length = S.P.length + S.D.length := by
  obtain ⟨PL, DL, q, e1, e2⟩ := h.h
  rw [← q.pm.length_eq, List.length_append, ← e1, ← e2, List.length_map, List.length_map]
theorem Rl.mem {S : TS} {R : RS} (h : Rl S R) (k : Int) : (∃ x ∈ R.L, x.n = k) ↔ k ∈ S.P ++ S.D := by
  obtain ⟨PL, DL, q, e1, e2⟩ := h.h
  rw [← e1, ← e2, ← List.map_append, List.mem_map]
  constructor
  · rintro ⟨x, hx, e⟩; exact ⟨x, q.pm.mem_iff.2 hx, e⟩
  · rintro ⟨x, hx, e⟩; exact ⟨x, q.pm.mem_iff.1 hx, e⟩
theorem Rl.dear {S : TS} {R : RS} (h : Rl S R) : (R.L.filter RK.d).length = S.D.length := by
  obtain ⟨PL, DL, q, e1, e2⟩ := h.h
  rw [← (q.pm.filter RK.d).length_eq, List.filter_append, List.filter_eq_nil_iff.2 (fun x hx => by simp [q.fp x hx]), List.filter_eq_self.2 (fun x hx => q.fd x hx), ← e2, List.length_map]
  rfl
/-- one key taken out. -/
theorem Sd.out {L PL DL A B : List RK} {y : RK} (h : Sd L PL DL) (e : L = A ++ y :: B) : ∃ PL' DL', Sd (A ++ B) PL' DL' ∧ PL'.map RK.n = (PL.map RK.n).erase y.n ∧ DL'.map RK.n = (DL.map RK.n).erase y.n := by
  have hL : L.Perm (y :: (A ++ B)) := by rw [e]; exact List.perm_middle
  have hnd : ((PL ++ DL).map RK.n).Nodup := (h.pm.map RK.n).nodup_iff.2 h.nd
  have hndAB : ((A ++ B).map RK.n).Nodup := by
    have := (hL.map RK.n).nodup_iff.1 h.nd
    rw [List.map_cons, List.nodup_cons] at this
    exact this.2
  rw [List.map_append, List.nodup_append] at hnd
  have hy : y ∈ PL ++ DL := h.pm.mem_iff.2 (by rw [e]; simp)
  rcases List.mem_append.1 hy with hp | hd
  · obtain ⟨P1, P2, rfl⟩ := List.append_of_mem hp
    have hn1 : y.n ∉ P1.map RK.n := fun hm => by
      have := hnd.1
      rw [List.map_append, List.nodup_append] at this
      exact this.2.2 _ hm y.n (by simp) rfl
    have hn2 : y.n ∉ DL.map RK.n := fun hm => hnd.2.2 y.n (by simp) y.n hm rfl
    refine ⟨P1 ++ P2, DL, ⟨?_, fun x hx => h.fp x ?_, h.fd, h.sp.sublist (List.Sublist.append_left (List.sublist_cons_self _ _) _), h.sd, hndAB⟩, ?_, ?_⟩
    · have h1 : ((P1 ++ y :: P2) ++ DL).Perm (y :: ((P1 ++ P2) ++ DL)) := by
        rw [List.append_assoc, List.cons_append, List.append_assoc]
        exact List.perm_middle
      exact ((h1.symm.trans h.pm).trans hL).cons_inv
    · rcases List.mem_append.1 hx with hx | hx
      · exact List.mem_append_left _ hx
      · exact List.mem_append_right _ (List.mem_cons_of_mem _ hx)
    · rw [List.map_append, List.map_append, List.map_cons, List.erase_append_right _ hn1, List.erase_cons_head]
    · rw [erase_out hn2]
  · obtain ⟨D1, D2, rfl⟩ := List.append_of_mem hd
    have hn1 : y.n ∉ D1.map RK.n := fun hm => by
      have := hnd.2.1
      rw [List.map_append, List.nodup_append] at this
      exact this.2.2 _ hm y.n (by simp) rfl
    have hn2 : y.n ∉ PL.map RK.n := fun hm => hnd.2.2 y.n hm y.n (by simp) rfl
    refine ⟨PL, D1 ++ D2, ⟨?_, h.fp, fun x hx => h.fd x ?_, h.sp, h.sd.sublist (List.Sublist.append_left (List.sublist_cons_self _ _) _), hndAB⟩, ?_, ?_⟩
    · have h1 : (PL ++ (D1 ++ y :: D2)).Perm (y :: (PL ++ (D1 ++ D2))) := by
        rw [← List.append_assoc, ← List.append_assoc]
        exact List.perm_middle
      exact ((h1.symm.trans h.pm).trans hL).cons_inv
    · rcases List.mem_append.1 hx with hx | hx
      · exact List.mem_append_left _ hx
      · exact List.mem_append_right _ (List.mem_cons_of_mem _ hx)
    · rw [erase_out hn2]
    · rw [List.map_append, List.map_append, List.map_cons, List.erase_append_right _ hn1, List.erase_cons_head]
theorem last_pw {l : List RK} {y : RK} (h : l.Pairwise (fun x y => x.w < y.w)) (hw : ∀ x ∈ l, x.w < y.w) : (l ++ [y]).Pairwise (fun x y => x.w < y.w) := by
  rw [List.pairwise_append]
  exact ⟨h, List.pairwise_singleton _ _, fun a ha b hb => by rw [List.mem_singleton.1 hb]; exact hw a ha⟩
theorem nd_in {A B : List RK} {y : RK} (h : ((A ++ B).map RK.n).Nodup) (hy : y.n ∉ (A ++ B).map RK.n) : ((A ++ y :: B).map RK.n).Nodup := by
  have : (A ++ y :: B).Perm (y :: (A ++ B)) := List.perm_middle
  rw [(this.map RK.n).nodup_iff, List.map_cons, List.nodup_cons]
  exact ⟨hy, h⟩
/-- one laid behind the dear ones. -/
theorem Sd.inD {A B PL DL : List RK} {y : RK} (h : Sd (A ++ B) PL DL) (hy : y.n ∉ (A ++ B).map RK.n) (hd : y.d = true) (hw : ∀ x ∈ A ++ B, x.w < y.w) : Sd (A ++ y :: B) PL (DL ++ [y]) := by
  refine ⟨?_, h.fp, fun x hx => ?_, h.sp, last_pw h.sd (fun x hx => hw x (h.pm.mem_iff.1 (List.mem_append_right _ hx))), nd_in h.nd hy⟩
  · have h1 : (PL ++ (DL ++ [y])).Perm (y :: (PL ++ DL)) := by
      rw [← List.append_assoc]
      exact List.perm_append_singleton _ _
    exact h1.trans ((h.pm.cons y).trans List.perm_middle.symm)
  · rcases List.mem_append.1 hx with hx | hx
    · exact h.fd x hx
    · rw [List.mem_singleton.1 hx]; exact hd
/-- one laid behind the plain ones. -/
theorem Sd.inP {A B PL DL : List RK} {y : RK} (h : Sd (A ++ B) PL DL) (hy : y.n ∉ (A ++ B).map RK.n) (hd : y.d = false) (hw : ∀ x ∈ A ++ B, x.w < y.w) : Sd (A ++ y :: B) (PL ++ [y]) DL := by
  refine ⟨?_, fun x hx => ?_, h.fd, last_pw h.sp (fun x hx => hw x (h.pm.mem_iff.1 (List.mem_append_left _ hx))), h.sd, nd_in h.nd hy⟩
  · have h1 : ((PL ++ [y]) ++ DL).Perm (y :: (PL ++ DL)) := by
      rw [List.append_assoc]
      exact List.perm_middle
    exact h1.trans ((h.pm.cons y).trans List.perm_middle.symm)
  · rcases List.mem_append.1 hx with hx | hx
    · exact h.fp x hx
    · rw [List.mem_singleton.1 hx]; exact hd
theorem Sd.off {L PL DL A B : List RK} {y : RK} (h : Sd L PL DL) (e : L = A ++ y :: B) : y.n ∉ (A ++ B).map RK.n := by
  have h1 : L.Perm (y :: (A ++ B)) := by rw [e]; exact List.perm_middle
  have := (h1.map RK.n).nodup_iff.1 h.nd
  rw [List.map_cons, List.nodup_cons] at this
  exact this.1
theorem mid_in {A B : List RK} {x y : RK} (h : x ∈ A ++ B) : x ∈ A ++ y :: B := by
  rcases List.mem_append.1 h with h | h
  · exact List.mem_append_left _ h
  · exact List.mem_append_right _ (List.mem_cons_of_mem _ h)
theorem mid_or {A B : List RK} {x y : RK} (h : x ∈ A ++ y :: B) : x = y ∨ x ∈ A ++ B := by
  rcases List.mem_append.1 h with h | h
  · exact .inr (List.mem_append_left _ h)
  · rcases List.mem_cons.1 h with h | h
    · exact .inl h
    · exact .inr (List.mem_append_right _ h)
/-! ### the calls -/
theorem Rl.add {S : TS} {R : RS} (h : Rl S R) (hg : Gd S) {k : Int} (he : adE S k = 0) : Rl (adS S k) { R with L := R.L ++ [⟨k, false, false, R.c⟩], c := R.c + 1 } := by
  rw [ad_ok he]
  have hk := (ad_iff.1 he).1
  have hno : k ∉ R.L.map RK.n := fun hm => by
    obtain ⟨x, hx, e⟩ := List.mem_map.1 hm
    exact hk ((h.mem k).1 ⟨x, hx, e⟩)
  obtain ⟨PL, DL, q, e1, e2⟩ := h.h
  refine ⟨h.M, h.Z, ⟨_, _, Sd.inP (A := R.L) (B := []) (y := ⟨k, false, false, R.c⟩) (by rw [List.append_nil]; exact q) (by rw [List.append_nil]; exact hno) rfl (by rw [List.append_nil]; exact h.cw), by rw [List.map_append, e1]; rfl, e2⟩, fun x hx => ?_, fun x hx => ?_⟩
  · rcases List.mem_append.1 hx with hx | hx
    · have := h.cw x hx; show x.w < R.c + 1; omega
    · rw [List.mem_singleton.1 hx]; show R.c < R.c + 1; omega
  · rcases List.mem_append.1 hx with hx | hx
    · exact h.pk x hx
    · rw [List.mem_singleton.1 hx]
      show S.K k = false
      cases hK : S.K k with
      | false => rfl
      | true => exact absurd (hg.kin k hK) hk
theorem Rl.drop {S : TS} {R : RS} (h : Rl S R) {A B : List RK} {y : RK} (e : R.L = A ++ y :: B) : Rl (drS S y.n) { R with L := A ++ B } := by
  have hin : inT S y.n = true := in_iff.2 ((h.mem y.n).1 ⟨y, by rw [e]; simp, rfl⟩)
  obtain ⟨PL, DL, q, e1, e2⟩ := h.h
  obtain ⟨PL', DL', q', f1, f2⟩ := q.out e
  have hoff := q.off e
  unfold drS
  rw [if_pos hin]
  refine ⟨h.M, h.Z, ⟨PL', DL', q', by rw [f1, e1]; rfl, by rw [f2, e2]; rfl⟩, fun x hx => h.cw x (by rw [e]; exact mid_in hx), fun x hx => ?_⟩
  show setK S.K y.n false x.n = x.p
  unfold setK
  rw [if_neg (fun e3 => hoff (List.mem_map.2 ⟨x, hx, e3⟩))]
  exact h.pk x (by rw [e]; exact mid_in hx)
/-- a key becomes the last of the dear ones. -/
theorem Rl.dc {S : TS} {R : RS} (h : Rl S R) {A B : List RK} {y : RK} (e : R.L = A ++ y :: B) : Rl (dcS (tkS S y.n) y.n) { R with L := A ++ { y with d := true, w := R.c } :: B, c := R.c + 1 } := by
  obtain ⟨PL, DL, q, e1, e2⟩ := h.h
  obtain ⟨PL', DL', q', f1, f2⟩ := q.out e
  have hoff := q.off e
  refine ⟨h.M, h.Z, ⟨PL', DL' ++ [_], q'.inD (y := { y with d := true, w := R.c }) hoff rfl (fun x hx => h.cw x (by rw [e]; exact mid_in hx)), by rw [f1, e1]; rfl, by rw [List.map_append, f2, e2]; rfl⟩, fun x hx => ?_, fun x hx => ?_⟩
  · rcases mid_or hx with rfl | hx
    · show R.c < R.c + 1; omega
    · have := h.cw x (by rw [e]; exact mid_in hx); show x.w < R.c + 1; omega
  · rcases mid_or hx with rfl | hx
    · exact h.pk y (by rw [e]; simp)
    · exact h.pk x (by rw [e]; exact mid_in hx)
/-- the first of the dear ones becomes the last of the plain ones. -/
theorem Rl.bk {S : TS} {R : RS} (h : Rl S R) {A B : List RK} {y : RK} (e : R.L = A ++ y :: B) {r : List Int} (hD : S.D = y.n :: r) (hZ : S.Z < (S.D.length : Int)) : Rl (bkS S) { R with L := A ++ { y with d := false, w := R.c } :: B, c := R.c + 1 } := by
  obtain ⟨PL, DL, q, e1, e2⟩ := h.h
  have hnd : (S.P ++ S.D).Nodup := by
    rw [← e1, ← e2, ← List.map_append]
    exact (q.pm.map RK.n).nodup_iff.2 q.nd
  have hoff := q.off e
  obtain ⟨PL', DL', q', f1, f2⟩ := q.out e
  have hyP : y.n ∉ S.P := fun hp => (List.nodup_append.1 hnd).2.2 _ hp y.n (by rw [hD]; simp) rfl
  have hb : bkS S = { S with P := S.P ++ [y.n], D := r } := by
    unfold bkS
    rw [hD]
    show (if S.Z < ((y.n :: r).length : Int) then _ else _) = _
    rw [if_pos (by rw [← hD]; exact hZ)]
  rw [hb]
  refine ⟨h.M, h.Z, ⟨PL' ++ [_], DL', q'.inP (y := { y with d := false, w := R.c }) hoff rfl (fun x hx => h.cw x (by rw [e]; exact mid_in hx)), ?_, ?_⟩, fun x hx => ?_, fun x hx => ?_⟩
  · rw [List.map_append, f1, e1, erase_out hyP]; rfl
  · rw [f2, e2, hD, List.erase_cons_head]
  · rcases mid_or hx with rfl | hx
    · show R.c < R.c + 1; omega
    · have := h.cw x (by rw [e]; exact mid_in hx); show x.w < R.c + 1; omega
  · rcases mid_or hx with rfl | hx
    · exact h.pk y (by rw [e]; simp)
    · exact h.pk x (by rw [e]; exact mid_in hx)
def pinF (k : Int) (on : Bool) (x : RK) : RK := if x.n = k then { x with p := on } else x
theorem pinF_same (k : Int) (on : Bool) (x : RK) : (pinF k on x).n = x.n ∧ (pinF k on x).d = x.d ∧ (pinF k on x).w = x.w := by
  unfold pinF
  split <;> exact ⟨rfl, rfl, rfl⟩
theorem pin_map {A B : List RK} {y : RK} {on : Bool} (h : ∀ x ∈ A ++ B, x.n ≠ y.n) : (A ++ y :: B).map (pinF y.n on) = A ++ { y with p := on } :: B := by
  rw [List.map_append, List.map_cons]
  have h1 : A.map (pinF y.n on) = A := by
    refine (List.map_congr_left (fun x hx => ?_)).trans (List.map_id A)
    unfold pinF; rw [if_neg (h x (List.mem_append_left _ hx))]; rfl
  have h2 : B.map (pinF y.n on) = B := by
    refine (List.map_congr_left (fun x hx => ?_)).trans (List.map_id B)
    unfold pinF; rw [if_neg (h x (List.mem_append_right _ hx))]; rfl
  rw [h1, h2]
  unfold pinF
  rw [if_pos rfl]
theorem Rl.pin {S : TS} {R : RS} (h : Rl S R) {A B : List RK} {y : RK} (e : R.L = A ++ y :: B) (on : Bool) : Rl (pnS S y.n on) { R with L := A ++ { y with p := on } :: B } := by
  have hin : inT S y.n = true := in_iff.2 ((h.mem y.n).1 ⟨y, by rw [e]; simp, rfl⟩)
  obtain ⟨PL, DL, q, e1, e2⟩ := h.h
  have hoff := q.off e
  have hL : A ++ { y with p := on } :: B = R.L.map (pinF y.n on) := by
    rw [e, pin_map (fun x hx e3 => hoff (List.mem_map.2 ⟨x, hx, e3⟩))]
  have hmn : ∀ l : List RK, (l.map (pinF y.n on)).map RK.n = l.map RK.n := fun l => by
    rw [List.map_map]
    exact List.map_congr_left (fun x _ => (pinF_same _ _ x).1)
  unfold pnS
  rw [if_pos hin, hL]
  refine ⟨h.M, h.Z, ⟨PL.map (pinF y.n on), DL.map (pinF y.n on), ⟨by rw [← List.map_append]; exact q.pm.map _, fun x hx => ?_, fun x hx => ?_, ?_, ?_, by rw [hmn]; exact q.nd⟩, by rw [hmn, e1], by rw [hmn, e2]⟩, fun x hx => ?_, fun x hx => ?_⟩
  · obtain ⟨z, hz, rfl⟩ := List.mem_map.1 hx
    rw [(pinF_same _ _ z).2.1]; exact q.fp z hz
  · obtain ⟨z, hz, rfl⟩ := List.mem_map.1 hx
    rw [(pinF_same _ _ z).2.1]; exact q.fd z hz
  · rw [List.pairwise_map]
    exact q.sp.imp (fun {a b} hab => by rw [(pinF_same _ _ a).2.2, (pinF_same _ _ b).2.2]; exact hab)
  · rw [List.pairwise_map]
    exact q.sd.imp (fun {a b} hab => by rw [(pinF_same _ _ a).2.2, (pinF_same _ _ b).2.2]; exact hab)
  · obtain ⟨z, hz, rfl⟩ := List.mem_map.1 hx
    rw [(pinF_same _ _ z).2.2]; exact h.cw z hz
  · obtain ⟨z, hz, rfl⟩ := List.mem_map.1 hx
    show setK S.K y.n on (pinF y.n on z).n = _
    rw [(pinF_same _ _ z).1]
    unfold setK pinF
    by_cases e3 : z.n = y.n
    · rw [if_pos e3, if_pos e3]
    · rw [if_neg e3, if_neg e3]; exact h.pk z hz
/-! ### the first of a row -/
def okB (dr fr : Bool) (x : RK) : Bool := (x.d == dr) && !(fr && x.p)
/-- the place of the first key of a row. -/
def Bst (L : List RK) (dr fr : Bool) (z : Int) : Prop := (z = -1 ∧ ∀ x ∈ L, okB dr fr x = false) ∨ ∃ i : Nat, z = i ∧ i < L.length ∧ okB dr fr (L.getD i rk0) = true ∧ ∀ y ∈ L, okB dr fr y = true → (L.getD i rk0).w ≤ y.w
theorem rk_at {l : List RK} {i : Nat} (h : i < l.length) : l = l.take i ++ l.getD i rk0 :: l.drop (i + 1) := by
  rw [List.getD_eq_getElem?_getD, List.getElem?_eq_getElem h, Option.getD_some, ← List.drop_eq_getElem_cons h, List.take_append_drop]
theorem rk_take {l : List RK} {i : Nat} (h : i < l.length) : l.take (i + 1) = l.take i ++ [l.getD i rk0] := by
  rw [List.take_add_one, List.getElem?_eq_getElem h, List.getD_eq_getElem?_getD, List.getElem?_eq_getElem h]
  rfl
theorem rk_mem {l : List RK} {i : Nat} (h : i < l.length) : l.getD i rk0 ∈ l := by
  rw [List.getD_eq_getElem?_getD, List.getElem?_eq_getElem h]
  exact List.getElem_mem h
def side (dr : Bool) (PL DL : List RK) : List RK := if dr then DL else PL
theorem side_mem {L PL DL : List RK} (h : Sd L PL DL) {dr fr : Bool} {x : RK} (hx : x ∈ L) (ho : okB dr fr x = true) : x ∈ side dr PL DL := by
  have hd : x.d = dr := by
    unfold okB at ho
    rw [Bool.and_eq_true] at ho
    exact eq_of_beq ho.1
  rcases List.mem_append.1 (h.pm.mem_iff.2 hx) with hp | hp
  · have := h.fp x hp
    rw [← hd, this]; exact hp
  · have := h.fd x hp
    rw [← hd, this]; exact hp
theorem side_in {L PL DL : List RK} (h : Sd L PL DL) {dr : Bool} {x : RK} (hx : x ∈ side dr PL DL) : x ∈ L ∧ x.d = dr := by
  unfold side at hx
  cases dr with
  | true => exact ⟨h.pm.mem_iff.1 (List.mem_append_right _ hx), h.fd x hx⟩
  | false => exact ⟨h.pm.mem_iff.1 (List.mem_append_left _ hx), h.fp x hx⟩
theorem side_pw {L PL DL : List RK} (h : Sd L PL DL) (dr : Bool) : (side dr PL DL).Pairwise (fun x y => x.w < y.w) := by
  cases dr with
  | true => exact h.sd
  | false => exact h.sp
theorem bst_get {L PL DL : List RK} (h : Sd L PL DL) {dr fr : Bool} {z : Int} (hz : Bst L dr fr z) {A B : List RK} {x : RK} (e : side dr PL DL = A ++ x :: B) (hA : ∀ a ∈ A, okB dr fr a = false) (hx : okB dr fr x = true) : ∃ i : Nat, z = i ∧ i < L.length ∧ L.getD i rk0 = x := by
  have hxL := (side_in h (dr := dr) (x := x) (by rw [e]; simp)).1
  rcases hz with ⟨_, hn⟩ | ⟨i, rfl, hi, ho, hm⟩
  · rw [hn x hxL] at hx; cases hx
  · refine ⟨i, rfl, hi, ?_⟩
    have hy := side_mem h (rk_mem hi) ho
    have hw := hm x hxL hx
    have hp := side_pw h dr
    rw [e] at hy hp
    rw [List.pairwise_append, List.pairwise_cons] at hp
    rcases List.mem_append.1 hy with hy | hy
    · rw [hA _ hy] at ho; cases ho
    · rcases List.mem_cons.1 hy with hy | hy
      · exact hy
      · have := hp.2.1.1 _ hy; omega
theorem bst_none {L PL DL : List RK} (h : Sd L PL DL) {dr fr : Bool} {z : Int} (hz : Bst L dr fr z) (hA : ∀ a ∈ side dr PL DL, okB dr fr a = false) : z = -1 := by
  rcases hz with ⟨h1, _⟩ | ⟨i, rfl, hi, ho, _⟩
  · exact h1
  · have := hA _ (side_mem h (rk_mem hi) ho)
    rw [this] at ho; cases ho
/-- what is found so far. -/
def Bsf (L : List RK) (dr fr : Bool) (j : Nat) (z : Int) : Prop := (z = -1 ∧ ∀ x ∈ L.take j, okB dr fr x = false) ∨ ∃ i : Nat, z = i ∧ i < j ∧ okB dr fr (L.getD i rk0) = true ∧ ∀ y ∈ L.take j, okB dr fr y = true → (L.getD i rk0).w ≤ y.w
theorem bsf_zero (L : List RK) (dr fr : Bool) : Bsf L dr fr 0 (-1) := .inl ⟨rfl, by simp⟩
theorem bsf_skip {L : List RK} {dr fr : Bool} {j : Nat} {z : Int} (h : Bsf L dr fr j z) (hj : j < L.length) (ho : okB dr fr (L.getD j rk0) = false) : Bsf L dr fr (j + 1) z := by
  rcases h with ⟨h1, h2⟩ | ⟨i, h1, h2, h3, h4⟩
  · refine .inl ⟨h1, fun x hx => ?_⟩
    rw [rk_take hj] at hx
    rcases List.mem_append.1 hx with hx | hx
    · exact h2 x hx
    · rw [List.mem_singleton.1 hx]; exact ho
  · refine .inr ⟨i, h1, by omega, h3, fun x hx hx2 => ?_⟩
    rw [rk_take hj] at hx
    rcases List.mem_append.1 hx with hx | hx
    · exact h4 x hx hx2
    · rw [List.mem_singleton.1 hx, ho] at hx2; cases hx2
theorem bsf_new {L : List RK} {dr fr : Bool} {j : Nat} {z : Int} (h : Bsf L dr fr j z) (hj : j < L.length) (ho : okB dr fr (L.getD j rk0) = true) (hw : z < 0 ∨ ∃ i : Nat, z = i ∧ (L.getD j rk0).w < (L.getD i rk0).w) : Bsf L dr fr (j + 1) j := by
  refine .inr ⟨j, rfl, by omega, ho, fun x hx hx2 => ?_⟩
  rw [rk_take hj] at hx
  rcases List.mem_append.1 hx with hx | hx
  · rcases h with ⟨h1, h2⟩ | ⟨i, h1, h2, h3, h4⟩
    · rw [h2 x hx] at hx2; cases hx2
    · rcases hw with hw | ⟨i', hw1, hw2⟩
      · omega
      · have hii : i = i' := by omega
        subst hii
        have := h4 x hx hx2
        omega
  · rw [List.mem_singleton.1 hx]; omega
theorem bsf_keep {L : List RK} {dr fr : Bool} {j : Nat} {z : Int} (h : Bsf L dr fr j z) (hj : j < L.length) {i : Nat} (hz : z = i) (hw : (L.getD i rk0).w ≤ (L.getD j rk0).w) : Bsf L dr fr (j + 1) z := by
  rcases h with ⟨h1, h2⟩ | ⟨i', h1, h2, h3, h4⟩
  · omega
  · have hii : i' = i := by omega
    subst hii
    refine .inr ⟨i', h1, by omega, h3, fun x hx hx2 => ?_⟩
    rw [rk_take hj] at hx
    rcases List.mem_append.1 hx with hx | hx
    · exact h4 x hx hx2
    · rw [List.mem_singleton.1 hx]; exact hw
theorem bsf_all {L : List RK} {dr fr : Bool} {z : Int} (h : Bsf L dr fr L.length z) : Bst L dr fr z := by
  unfold Bsf at h
  rw [List.take_length] at h
  exact h

end Go.Proofs.Yteiangakgfekgaa
