/-
  A queue and the document's side by side: what they have in common, and both in memory. Plain facts; no condition.
-/
import Derived.Test.YtdfdoinhkjoalaaQuRef4
import Derived.Test.YtdfdoinhkjoalaaQuDrain
namespace Go.Proofs.Ytdfdoinhkjoalaa
open Go.RowKit Plain
set_option linter.unusedVariables false

/-- S by rising blocks and R as they came are the same queue. -/
structure Pq (S R : QS) : Prop where
  g : Qg S
  m : R.m = S.m
  c : R.c = S.c
  p : S.L.Perm R.L
  r : (R.L.map It.g).Pairwise (· < ·)
  a : ∀ x ∈ R.L, x.g < R.c
  b : ∀ x ∈ S.L, 0 ≤ x.b
theorem Pq.new (m : Int) : Pq ⟨[], qm m, 0⟩ ⟨[], qm m, 0⟩ := ⟨Qg.new m, rfl, rfl, .refl _, by simp, by simp, by simp⟩
section
variable {S R : QS}
theorem Pq.len (h : Pq S R) : R.L.length = S.L.length := h.p.length_eq.symm
theorem Pq.l (h : Pq S R) : R.L.length ≤ 1000 := by rw [h.len]; exact h.g.l
theorem hs_iff (l : List It) (b : Int) : hsI l b = true ↔ ∃ x ∈ l, x.b = b := by unfold hsI; rw [List.any_eq_true]; simp
theorem Pq.hs (h : Pq S R) (b : Int) : hsI S.L b = hsI R.L b := by
  rw [Bool.eq_iff_iff, hs_iff, hs_iff]
  exact ⟨fun ⟨x, h1, h2⟩ => ⟨x, h.p.mem_iff.1 h1, h2⟩, fun ⟨x, h1, h2⟩ => ⟨x, h.p.mem_iff.2 h1, h2⟩⟩
theorem Pq.get (h : Pq S R) (b : Int) : gtI S.L b = gtI R.L b := by
  unfold gtI
  cases hr : getL R.L b with
  | none =>
    have : hsI R.L b = false := by rw [hs_get, hr]; rfl
    rw [← h.hs] at this
    rw [get_miss this]
  | some y =>
    obtain ⟨h1, h2⟩ := get_mem hr
    have := get_of h.g.sr (h.p.mem_iff.2 h1)
    rw [h2] at this
    rw [this]
theorem Pq.pt (h : Pq S R) (b : Int) (d : ByteArray) : ptE S b d = ptE R b d := by unfold ptE; rw [h.hs, h.m, h.len]
theorem perm_mid {A B A' B' : List It} {y : It} (h : (A ++ y :: B).Perm (A' ++ y :: B')) (z : It) : (A ++ z :: B).Perm (A' ++ z :: B') ∧ (A ++ B).Perm (A' ++ B') := by
  have h1 : (y :: (A ++ B)).Perm (y :: (A' ++ B')) := List.perm_middle.symm.trans (h.trans List.perm_middle)
  have h2 := h1.cons_inv
  exact ⟨List.perm_middle.trans ((h2.cons z).trans List.perm_middle.symm), h2⟩
/-- a block that is there, in both. -/
theorem Pq.hit (h : Pq S R) {b : Int} (hh : hsI S.L b = true) : ∃ A y B A' B', S.L = A ++ y :: B ∧ R.L = A' ++ y :: B' ∧ y.b = b ∧ (∀ x ∈ A, x.b < b) ∧ (∀ x ∈ B, b < x.b) ∧ ∀ x ∈ A', x.b ≠ b := by
  have hr : hsI R.L b = true := by rw [← h.hs]; exact hh
  rcases parted b S.L h.g.sr with ⟨A, y, B, e, hy, hA, hB⟩ | ⟨A, B, e, hA, hB⟩
  · -- the first of R's
    have key : ∀ (l : List It), hsI l b = true → ∃ A' y' B', l = A' ++ y' :: B' ∧ y'.b = b ∧ ∀ x ∈ A', x.b ≠ b := by
      intro l
      induction l with
      | nil => intro h; cases h
      | cons x l ih =>
        intro h
        by_cases hx : x.b = b
        · exact ⟨[], x, l, rfl, hx, by simp⟩
        · have : hsI l b = true := by
            unfold hsI at h ⊢
            rw [List.any_cons] at h
            simpa [hx] using h
          obtain ⟨A', y', B', rfl, q1, q2⟩ := ih this
          exact ⟨x :: A', y', B', rfl, q1, fun z hz => by
            rcases List.mem_cons.1 hz with rfl | hz
            · exact hx
            · exact q2 z hz⟩
    obtain ⟨A', y', B', e', hy', hA'⟩ := key R.L hr
    have h1 : y' ∈ S.L := h.p.mem_iff.2 (by rw [e']; simp)
    have h2 := get_of h.g.sr h1
    rw [hy', e, get_hit hA hy] at h2
    obtain rfl : y = y' := Option.some.inj h2
    exact ⟨A, y, B, A', B', e, e', hy, hA, hB, hA'⟩
  · rw [e, hs_miss hA hB] at hh; cases hh
theorem Pq.put (h : Pq S R) (b : Int) (d : ByteArray) (hc : S.c + 1 ≤ 1000000000) : Pq (ptS S b d) (rpS R b d) := by
  by_cases e : ptE S b d = 0
  · have e' : ptE R b d = 0 := by rw [← h.pt]; exact e
    have hg := h.g.put e hc
    obtain ⟨q1, q2, q3⟩ := pt_range e
    unfold rpS
    rw [pt_ok e] at hg ⊢
    rw [if_pos e']
    cases hh : hsI S.L b with
    | true =>
      obtain ⟨A, y, B, A', B', e1, e2, hy, hA, hB, hA'⟩ := h.hit hh
      have hp := h.p
      have hr := h.r
      have ha := h.a
      have hb := h.b
      rw [e1, put_hit d _ hA hy] at hg
      rw [e1, e2] at hp
      rw [e2] at hr ha
      rw [e1] at hb
      rw [e1, e2, put_hit d _ hA hy, rp_hit d _ hA' hy]
      refine ⟨hg, h.m, by show R.c + 1 = S.c + 1; rw [h.c], (perm_mid hp _).1, ?_, fun x hx => ?_, fun x hx => ?_⟩
      · show (List.map It.g (A' ++ (⟨b, d, y.g⟩ : It) :: B')).Pairwise _
        rw [List.map_append, List.map_cons] at hr ⊢
        exact hr
      · show x.g < R.c + 1
        have hx : x ∈ A' ++ (⟨b, d, y.g⟩ : It) :: B' := hx
        rcases List.mem_append.1 hx with hx | hx
        · have := ha x (List.mem_append_left _ hx); omega
        · rcases List.mem_cons.1 hx with rfl | hx
          · have := ha y (by simp); show y.g < R.c + 1; omega
          · have := ha x (by simp [hx]); omega
      · have hx : x ∈ A ++ (⟨b, d, y.g⟩ : It) :: B := hx
        rcases List.mem_append.1 hx with hx | hx
        · exact hb x (List.mem_append_left _ hx)
        · rcases List.mem_cons.1 hx with rfl | hx
          · exact q1
          · exact hb x (by simp [hx])
    | false =>
      have hno : ∀ x ∈ R.L, x.b ≠ b := fun x hx he => by
        have : hsI R.L b = true := (hs_iff _ _).2 ⟨x, hx, he⟩
        rw [← h.hs, hh] at this
        cases this
      rcases parted b S.L h.g.sr with ⟨A, y, B, e1, hy, hA, hB⟩ | ⟨A, B, e1, hA, hB⟩
      · rw [e1, hs_hit hy] at hh; cases hh
      · have hp := h.p
        have hb := h.b
        rw [e1, put_miss d _ hA hB] at hg
        rw [e1] at hp hb
        rw [e1, put_miss d _ hA hB, rp_miss d _ hno]
        refine ⟨hg, h.m, by show R.c + 1 = S.c + 1; rw [h.c], ?_, ?_, fun x hx => ?_, fun x hx => ?_⟩
        · show (A ++ (⟨b, d, S.c⟩ : It) :: B).Perm (R.L ++ [⟨b, d, R.c⟩])
          rw [h.c]
          exact List.perm_middle.trans ((hp.cons _).trans (List.perm_append_singleton _ _).symm)
        · show (List.map It.g (R.L ++ [(⟨b, d, R.c⟩ : It)])).Pairwise _
          rw [List.map_append, List.pairwise_append]
          refine ⟨h.r, by simp, fun u hu v hv => ?_⟩
          obtain ⟨x, hx, rfl⟩ := List.mem_map.1 hu
          simp at hv
          subst hv
          exact h.a x hx
        · show x.g < R.c + 1
          have hx : x ∈ R.L ++ [(⟨b, d, R.c⟩ : It)] := hx
          rcases List.mem_append.1 hx with hx | hx
          · have := h.a x hx; omega
          · simp at hx; subst hx; show R.c < R.c + 1; omega
        · have hx : x ∈ A ++ (⟨b, d, S.c⟩ : It) :: B := hx
          rcases List.mem_append.1 hx with hx | hx
          · exact hb x (List.mem_append_left _ hx)
          · rcases List.mem_cons.1 hx with rfl | hx
            · exact q1
            · exact hb x (List.mem_append_right _ hx)
  · have e' : ptE R b d ≠ 0 := by rw [← h.pt]; exact e
    rw [pt_no e]
    unfold rpS
    rw [if_neg e']
    exact h
theorem Pq.take (h : Pq S R) (b : Int) : Pq ⟨delL S.L b, S.m, S.c⟩ ⟨rdL b R.L, R.m, R.c⟩ := by
  have hg := h.g.take b
  cases hh : hsI S.L b with
  | true =>
    obtain ⟨A, y, B, A', B', e1, e2, hy, hA, hB, hA'⟩ := h.hit hh
    have hp := h.p
    have hr := h.r
    have ha := h.a
    have hb := h.b
    rw [e1, del_hit hA hy hB] at hg
    rw [e1, e2] at hp
    rw [e2] at hr ha
    rw [e1] at hb
    rw [e1, e2, del_hit hA hy hB, rd_hit hA' hy]
    refine ⟨hg, h.m, h.c, (perm_mid hp y).2, ?_, fun x hx => ?_, fun x hx => ?_⟩
    · show (List.map It.g (A' ++ B')).Pairwise _
      rw [List.map_append] at hr ⊢
      rw [List.map_cons] at hr
      refine hr.sublist ?_
      exact (List.Sublist.refl _).append (List.sublist_cons_self _ _)
    · have hx : x ∈ A' ++ B' := hx
      refine ha x ?_
      rcases List.mem_append.1 hx with hx | hx
      · exact List.mem_append_left _ hx
      · exact List.mem_append_right _ (List.mem_cons_of_mem _ hx)
    · have hx : x ∈ A ++ B := hx
      refine hb x ?_
      rcases List.mem_append.1 hx with hx | hx
      · exact List.mem_append_left _ hx
      · exact List.mem_append_right _ (List.mem_cons_of_mem _ hx)
  | false =>
    have hno : ∀ x ∈ R.L, x.b ≠ b := fun x hx he => by
      have : hsI R.L b = true := (hs_iff _ _).2 ⟨x, hx, he⟩
      rw [← h.hs, hh] at this
      cases this
    have hno2 : ∀ x ∈ S.L, x.b ≠ b := fun x hx => hno x (h.p.mem_iff.1 hx)
    rw [filt_all hno2] at hg ⊢
    rw [rd_miss hno]
    exact ⟨hg, h.m, h.c, h.p, h.r, h.a, h.b⟩
theorem Pq.old (h : Pq S R) : olI S.L = R.L.getD 0 iz := by
  cases hr : R.L with
  | nil =>
    have hp := h.p
    rw [hr] at hp
    rw [hp.eq_nil]
    rfl
  | cons x l =>
    have hl : 0 < S.L.length := by rw [h.p.length_eq, hr]; simp
    obtain ⟨m1, m2⟩ := ol_mem hl
    have hx : x ∈ S.L := h.p.mem_iff.2 (by rw [hr]; simp)
    have h1 := m2 x hx
    have h2 : olI S.L ∈ x :: l := by rw [← hr]; exact h.p.mem_iff.1 m1
    show olI S.L = x
    rcases List.mem_cons.1 h2 with e | h2
    · exact e
    · have hp := h.r
      rw [hr, List.map_cons, List.pairwise_cons] at hp
      have := hp.1 _ (List.mem_map.2 ⟨_, h2, rfl⟩)
      omega
end
theorem rp_c (S : QS) (b : Int) (d : ByteArray) : (rpS S b d).c ≤ S.c + 1 := by
  unfold rpS
  split
  · exact Int.le_refl _
  · omega

/-! ### both in memory, and a block beside them -/
def Pb (w X : World) (q r : Nat) (S R : QS) (H : Nat) (cs : Array Value) (t : TypeId) : Prop := ∃ T1 T2, QX w X q T1 S ∧ RX w X r T2 R ∧ Dj T1 T2 ∧ Kp w X ∧ H ∉ T1 ∧ H ∉ T2 ∧ X.heap[H]? = some (.cells cs t (0, 0))
def Pz (w X : World) (q r : Nat) (S R : QS) : Prop := ∃ T1 T2, QX w X q T1 S ∧ RX w X r T2 R ∧ Dj T1 T2 ∧ Kp w X
section
variable {w X X' : World} {q r : Nat} {S S' R R' : QS} {H : Nat} {cs : Array Value} {t : TypeId}
theorem Pb.pz (h : Pb w X q r S R H cs t) : Pz w X q r S R := by obtain ⟨T1, T2, h1, h2, h3, h4, _⟩ := h; exact ⟨T1, T2, h1, h2, h3, h4⟩
theorem Pb.kp (h : Pb w X q r S R H cs t) (k : Kp X X') : Pb w X' q r S R H cs t := by
  obtain ⟨T1, T2, h1, h2, h3, h4, h5, h6, h7⟩ := h
  exact ⟨T1, T2, h1.kept k, h2.kept k, h3, h4.trans k, h5, h6, (k.block H (heap_lt h7)).trans h7⟩
theorem Pz.kp (h : Pz w X q r S R) (k : Kp X X') : Pz w X' q r S R := by
  obtain ⟨T1, T2, h1, h2, h3, h4⟩ := h
  exact ⟨T1, T2, h1.kept k, h2.kept k, h3, h4.trans k⟩
theorem Pz.box (h : Pz w X q r S R) (cs : Array Value) (t : TypeId) : Pb w (X.alloc (.cells cs t)) q r S R X.heap.size cs t := by
  have k : Kp X (X.alloc (.cells cs t)) := (Kp.refl X).alloc _
  obtain ⟨T1, T2, h1, h2, h3, h4⟩ := h
  refine ⟨T1, T2, h1.kept k, h2.kept k, h3, h4.trans k, fun h => ?_, fun h => ?_, ?_⟩
  · have := OL.qx.low h1 _ h; omega
  · have := OL.rx.low h2 _ h; omega
  · unfold World.alloc; exact Array.getElem?_push_size
/-- a call on the queue; what else stays. -/
theorem Pb.one (h : Pb w X q r S R H cs t) (hc : ∀ T1, QX w X q T1 S → Nz QX w X X' q T1 S') : Pb w X' q r S' R H cs t := by
  obtain ⟨T1, T2, h1, h2, h3, h4, h5, h6, h7⟩ := h
  obtain ⟨T', a1, a2, a3⟩ := hc T1 h1
  refine ⟨T', T2, a1, OL.rx.sp h2 a2 h3.symm, fun t ht ht2 => ?_, Sp.kp h4 a2 (OL.qx.new h1), fun h => ?_, h6, (a2.block H (heap_lt h7) h5).trans h7⟩
  · rcases a3 t ht with h | h
    · exact h3 t h ht2
    · have := OL.rx.low h2 t ht2; omega
  · rcases a3 H h with h | h
    · exact h5 h
    · have := heap_lt h7; omega
/-- a call on the document's. -/
theorem Pb.two (h : Pb w X q r S R H cs t) (hc : ∀ T2, RX w X r T2 R → Nz RX w X X' r T2 R') : Pb w X' q r S R' H cs t := by
  obtain ⟨T1, T2, h1, h2, h3, h4, h5, h6, h7⟩ := h
  obtain ⟨T', a1, a2, a3⟩ := hc T2 h2
  refine ⟨T1, T', OL.qx.sp h1 a2 h3, a1, fun t ht ht2 => ?_, Sp.kp h4 a2 (OL.rx.new h2), h5, fun h => ?_, (a2.block H (heap_lt h7) h6).trans h7⟩
  · rcases a3 t ht2 with h | h
    · exact h3 t ht h
    · have := OL.qx.low h1 t ht; omega
  · rcases a3 H h with h | h
    · exact h6 h
    · have := heap_lt h7; omega
end

end Go.Proofs.Ytdfdoinhkjoalaa
