/-
  Contracts of the document's Fail, Replace and Advance, wherever the power fails. Conditions: that its board lies in memory, its label has as many members as its bay, and its Epoch isn't the last one.
-/
import Derived.Test.YtinpkfdmellleaaGreatZRef
import Derived.Test.YtinpkfdmellleaaGreatZBd
namespace Go.Proofs.YtinpkfdmellleaaGreat
open Go.RowKit Plain
set_option linter.unusedVariables false

theorem Tv.put1 {w : World} {base g1 g2 n1 n2 c1 c2 : Nat} {l m : List Int} (h : Tv w base (.slice (some ⟨g1, 0, none⟩) n1 c1) (.slice (some ⟨g2, 0, none⟩) n2 c2) l m) (j : Nat) (a : Int) : Tv (w.setCell ⟨g1, j, none⟩ (.int .i64 a)) base (.slice (some ⟨g1, 0, none⟩) n1 c1) (.slice (some ⟨g2, 0, none⟩) n2 c2) (l.set j a) m :=
  ⟨h.1.put j a, h.2.1.other (fun e => h.2.2 g1 rfl (by injection e with e; rw [← e]; rfl)) j _, h.2.2⟩
theorem Tv.put2 {w : World} {base g1 g2 n1 n2 c1 c2 : Nat} {l m : List Int} (h : Tv w base (.slice (some ⟨g1, 0, none⟩) n1 c1) (.slice (some ⟨g2, 0, none⟩) n2 c2) l m) (j : Nat) (b : Int) : Tv (w.setCell ⟨g2, j, none⟩ (.int .i64 b)) base (.slice (some ⟨g1, 0, none⟩) n1 c1) (.slice (some ⟨g2, 0, none⟩) n2 c2) l (m.set j b) :=
  ⟨h.1.other (fun e => h.2.2 g1 rfl (by have : g1 = g2 := by injection e
                                        rw [this]; rfl)) j _, h.2.1.put j b, h.2.2⟩
/-- a label of the call's own, with two lists of its own. -/
structure Lw (v V : World) (X g1 g2 n1 n2 c1 c2 : Nat) (n s ep : Int) (l m : List Int) : Prop where
  lc : Lc V X n s ep (.slice (some ⟨g1, 0, none⟩) n1 c1) (.slice (some ⟨g2, 0, none⟩) n2 c2)
  tv : Tv V v.heap.size (.slice (some ⟨g1, 0, none⟩) n1 c1) (.slice (some ⟨g2, 0, none⟩) n2 c2) l m
  k : Kp v V
  b1 : X ≠ g1
  b2 : X ≠ g2
  e1 : n1 = l.length ∧ n1 ≤ c1 ∧ c1 ≤ 9223372036854775807
  e2 : n2 = m.length ∧ n2 ≤ c2 ∧ c2 ≤ 9223372036854775807
theorem Lw.new {v v1 : World} {u1 u2 : Value} {l m : List Int} (h : Tv v1 v.heap.size u1 u2 l m) (k : Kp v v1) (h1 : 0 < l.length) (h2 : 0 < m.length) (n s ep : Int) (t : TypeId) : ∃ g1 g2 c1 c2, u1 = .slice (some ⟨g1, 0, none⟩) l.length c1 ∧ u2 = .slice (some ⟨g2, 0, none⟩) m.length c2 ∧ Lw v (v1.alloc (.cells #[.int .i64 n, .int .i64 s, .int .i64 ep, .slice (some ⟨g1, 0, none⟩) l.length c1, .slice (some ⟨g2, 0, none⟩) m.length c2] t)) v1.heap.size g1 g2 l.length m.length c1 c2 n s ep l m := by
  obtain ⟨g1, c1, g2, c2, rfl, rfl, q1, q2, r1, r2, gne, f1, f2, cc1, cc2⟩ := h.shape h1 h2
  have a1 := (h.lo1 g1 rfl).2
  have a2 := (h.lo2 g2 rfl).2
  exact ⟨g1, g2, c1, c2, rfl, rfl, Lc.new v1 _ _ _ _ _ _, h.kp ((Kp.refl v1).alloc _), k.alloc _, by omega, by omega, ⟨rfl, q1, q2⟩, ⟨rfl, r1, r2⟩⟩
theorem Lw.p1 {v V : World} {X g1 g2 n1 n2 c1 c2 : Nat} {n s ep : Int} {l m : List Int} (h : Lw v V X g1 g2 n1 n2 c1 c2 n s ep l m) (j : Nat) (a : Int) : Lw v (V.setCell ⟨g1, j, none⟩ (.int .i64 a)) X g1 g2 n1 n2 c1 c2 n s ep (l.set j a) m := by
  have s := (Sp.refl [g1] V).set g1 j (by simp) (.int .i64 a)
  have hb : X ∉ [g1] := by simp [h.b1]
  exact ⟨⟨s.held h.lc.c0 hb, s.held h.lc.c1 hb, s.held h.lc.c2 hb, s.held h.lc.c3 hb, s.held h.lc.c4 hb⟩, h.tv.put1 j a, h.k.set g1 j (h.tv.lo1 g1 rfl).1 _, h.b1, h.b2, by rw [List.length_set]; exact h.e1, h.e2⟩
theorem Lw.p2 {v V : World} {X g1 g2 n1 n2 c1 c2 : Nat} {n s ep : Int} {l m : List Int} (h : Lw v V X g1 g2 n1 n2 c1 c2 n s ep l m) (j : Nat) (a : Int) : Lw v (V.setCell ⟨g2, j, none⟩ (.int .i64 a)) X g1 g2 n1 n2 c1 c2 n s ep l (m.set j a) := by
  have s := (Sp.refl [g2] V).set g2 j (by simp) (.int .i64 a)
  have hb : X ∉ [g2] := by simp [h.b2]
  exact ⟨⟨s.held h.lc.c0 hb, s.held h.lc.c1 hb, s.held h.lc.c2 hb, s.held h.lc.c3 hb, s.held h.lc.c4 hb⟩, h.tv.put2 j a, h.k.set g2 j (h.tv.lo2 g2 rfl).1 _, h.b1, h.b2, h.e1, by rw [List.length_set]; exact h.e2⟩
theorem Lw.at {v V : World} {X g1 g2 n1 n2 c1 c2 : Nat} {n s ep : Int} {l m : List Int} (h : Lw v V X g1 g2 n1 n2 c1 c2 n s ep l m) (h1 : 0 < l.length) (h2 : 0 < m.length) : (∀ o, V.frozen? ⟨g1, o, none⟩ = false) ∧ (∀ o, V.frozen? ⟨g2, o, none⟩ = false) ∧ (∀ j, j < l.length → V.cell? ⟨g1, j, none⟩ = some (.int .i64 (l.getD j 0))) ∧ (∀ j, j < m.length → V.cell? ⟨g2, j, none⟩ = some (.int .i64 (m.getD j 0))) := by
  obtain ⟨a1, d1, a2, d2, e1, e2, q1, q2, r1, r2, gne, f1, f2, cc1, cc2⟩ := h.tv.shape h1 h2
  simp only [Value.slice.injEq, Option.some.injEq, Addr.mk.injEq, and_true] at e1 e2
  rw [e1.1, e2.1]
  exact ⟨f1, f2, cc1, cc2⟩
theorem Lw.lo {v V : World} {X g1 g2 n1 n2 c1 c2 : Nat} {n s ep : Int} {l m : List Int} (h : Lw v V X g1 g2 n1 n2 c1 c2 n s ep l m) : ∀ q, q ∈ lbs (.slice (some ⟨g1, 0, none⟩) n1 c1) (.slice (some ⟨g2, 0, none⟩) n2 c2) → v.heap.size ≤ q := fun q hq => by
  unfold lbs at hq
  rcases List.mem_append.1 hq with g | g
  · exact (h.tv.lo1 q (by simpa using g)).1
  · exact (h.tv.lo2 q (by simpa using g)).1
theorem Yl.past {w0 w v Z w' : World} {x b : Nat} {T T1 A C : List Nat} {K : KS} (s : Sp (x :: T) w v) (n : Nw w T T1) (k : Kp v Z) (h : Yl w0 Z w' x b T1 K (A ++ C)) (lo : ∀ q, q ∈ C → v.heap.size ≤ q) : Yl w0 w w' x b T K A := by
  obtain ⟨T2, s7, m7, X7, q7, n7, l7⟩ := h
  have h1 := s.size
  have h2 := k.size
  exact ⟨T2, s7, m7, X7, s.then ((k.sp _).trans q7) (nw_cons n), fun t ht => by
    rcases n7 t ht with h | h
    · exact n t h
    · exact .inr (by omega), l7.mono (by omega) (fun q h => by
    rcases List.mem_append.1 h with h | h
    · exact .inl h
    · exact .inr (by have := lo q h; omega))⟩
/-- what publish answers of it. -/
theorem lw_pub {w0 w v Z : World} {x b : Nat} {T T1 : List Nat} {K : KS} {sv mv : Value} {X g1 g2 n1 n2 c1 c2 : Nat} {M : LB} (h : YX w0 v x b T1 K sv mv) (hK : Kp w0 v) (s : Sp (x :: T) w v) (nn : Nw w T T1) (lw : Lw v Z X g1 g2 n1 n2 c1 c2 M.n M.s M.ep M.sts M.mks) (he0 : 0 ≤ K.l.ep) (he : K.l.ep < 9007199254740992) (hg : K.b.g + 100 < 1000000) :
    Calls Tryz.prog 72 #[.pointer (some ⟨x, 0, none⟩), lV M.n M.s M.ep (.slice (some ⟨g1, 0, none⟩) n1 c1) (.slice (some ⟨g2, 0, none⟩) n2 c2)] Z fun e w' => e = .returned (.int .i64 (puE' K M)) ∧ Yl w0 w w' x b T (puK K M) (lbs sv mv) := by
  have hl := OL.dw.low h.bay
  have hx := h.hx
  refine (rpublish_l (h.kp lw.k) (hK.trans lw.k) M _ _ lw.tv.n1 lw.tv.n2 (fun q hq => ?_) (fun q hq => ?_) he0 he hg).mono ?_
  · obtain ⟨h1, h2⟩ := lw.tv.lo1 q hq
    refine ⟨fun hm => ?_, h2⟩
    rcases List.mem_cons.1 hm with e | e
    · omega
    · have := hl q e; omega
  · obtain ⟨h1, h2⟩ := lw.tv.lo2 q hq
    refine ⟨fun hm => ?_, h2⟩
    rcases List.mem_cons.1 hm with e | e
    · omega
    · have := hl q e; omega
  · rintro e w' ⟨rfl, h1, _⟩
    exact ⟨rfl, Yl.past s nn lw.k h1 lw.lo⟩
theorem nzOff {α : Type} {O : World → World → Nat → List Nat → α → Prop} {w0 w w' w'' : World} {b : Nat} {T : List Nat} {B : α} (k : Kp w w') (h : Nz O w0 w' w'' b T B) : Nz O w0 w w'' b T B := by
  obtain ⟨T', h1, h2, h3⟩ := h
  exact ⟨T', h1, (k.sp _).trans h2, fun t ht => (h3 t ht).imp id (fun h => Nat.le_trans k.size h)⟩
theorem dk_at {w0 w : World} {y : Nat} {T : List Nat} {B : BS} (h : Dw w0 w y T B) (K : Kp w0 w) (i : Nat) (hi : i < B.ms.length) : ∃ m cap z, w.cell? ⟨y, 0, none⟩ = some (.slice (some ⟨m, 0, none⟩) B.ms.length cap) ∧ w.cell? ⟨m, i, none⟩ = some (.pointer (some ⟨z, 0, none⟩)) ∧ (B.ms.length ≤ cap ∧ cap ≤ 9223372036854775807) ∧ w.cell? ⟨z, 2, none⟩ = some (.bool (ddB B i)) ∧ (∀ w1, Kp w w1 → Calls Tryz.prog 18 #[.pointer (some ⟨z, 0, none⟩)] w1 fun e w' => e = .returned (.tuple #[]) ∧ Nz Dw w0 w w' y T (put B (i : Int) (fa (bm B (i : Int))))) ∧ (∀ w1, Kp w w1 → Calls Tryz.prog 89 #[.pointer (some ⟨z, 0, none⟩)] w1 fun e w' => e = .returned (.tuple #[]) ∧ Nz Dw w0 w w' y T (put B (i : Int) (rp (bm B (i : Int))))) := by
  have hf : fdE B (i : Int) = 0 := fd_in (by omega) (by omega)
  obtain ⟨m, cap, X, F, rfl, h1⟩ := h
  obtain ⟨P, p1, p2, p3⟩ := h1.at hf
  rw [Int.toNat_natCast] at p2 p3
  refine ⟨m, cap, X.getD i 0, h1.c0, h1.ar i hi, ⟨h1.k1, h1.k2⟩, rx_dead h1 i hi, fun w1 k1 => ?_, fun w1 k1 => ?_⟩
  · refine (rw_fail (OL.rw.sp p2 (k1.sp []) (fun _ _ h => by cases h)) (K.trans k1)).mono ?_
    rintro e w' ⟨rfl, hn⟩
    exact ⟨rfl, p3 w' _ (nzOff k1 hn) Right.fa (Nat.zero_le _)⟩
  · refine (rw_replace (OL.rw.sp p2 (k1.sp []) (fun _ _ h => by cases h)) (K.trans k1)).mono ?_
    rintro e w' ⟨rfl, hn⟩
    exact ⟨rfl, p3 w' _ (nzOff k1 hn) Right.rp (Nat.zero_le _)⟩
/-- a dead member that fails is as it was. -/
theorem fa_gone {S : MS} (h : Right S) (hd : S.dead = true) : fa S = S := by
  have := h.gone hd
  obtain ⟨a, b, c, d, e⟩ := S
  dsimp only at this hd
  subst this hd
  rfl
theorem put_gone {B : BS} (h : Gd B) (i : Nat) (hi : i < B.ms.length) (hd : ddB B i = true) : put B (i : Int) (fa (bm B (i : Int))) = B := by
  have hr : Right (bm B (i : Int)) := h.rightAt (fd_in (by omega) (by omega))
  rw [fa_gone hr (by unfold bm; rw [Int.toNat_natCast]; exact hd)]
  unfold put bm
  rw [Int.toNat_natCast, List.getD_eq_getElem?_getD, List.getElem?_eq_getElem hi]
  simp only [Option.getD_some, List.set_getElem_self]
theorem set_getD (l : List Int) (i : Nat) (a : Int) (h : l.getD i 0 = a) : l.set i a = l := by
  by_cases hi : i < l.length
  · rw [List.getD_eq_getElem?_getD, List.getElem?_eq_getElem hi] at h
    simp only [Option.getD_some] at h
    rw [← h, List.set_getElem_self]
  · exact List.set_eq_of_length_le (by omega)

end Go.Proofs.YtinpkfdmellleaaGreat
