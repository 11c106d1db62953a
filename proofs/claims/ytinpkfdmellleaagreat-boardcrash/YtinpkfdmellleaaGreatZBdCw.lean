/-
  What BoardCrash's walk carries: the array between calls, a label of the call's own beside it, the last change. No condition.
-/
import Derived.Test.YtinpkfdmellleaaGreatZBdCr6
import Derived.Test.YtinpkfdmellleaaGreatZBdAct
import Derived.Test.YtinpkfdmellleaaGreatZBdLists
import Derived.Test.YtinpkfdmellleaaGreatZBdEp
namespace Go.Proofs.YtinpkfdmellleaaGreat
open Go.RowKit Plain
set_option linter.unusedVariables false

/-- the array in the script. -/
structure Bz (K : KS) (k : Nat) : Prop where
  q : Bq K 110
  e : K.l.ep ≤ 2 + k
  g : K.b.g ≤ 2300 + 64 * k
theorem Bz.p {K : KS} {k : Nat} (h : Bz K k) : Ep K k := ⟨h.q.bo, h.e, h.g⟩
theorem Bz.more {K : KS} {k : Nat} (h : Bz K k) : Bz K (k + 1) := ⟨h.q, by have := h.e; omega, by have := h.g; omega⟩
theorem Bz.stp {K K' : KS} {k : Nat} (h : Bz K k) (s : Stp K K' 110) : Bz K' (k + 1) := ⟨s.q, by have := h.e; have := s.e; omega, by have := h.g; have := s.g; omega⟩
theorem bz_act {K : KS} {k : Nat} (h : Bz K k) (hk : k ≤ 100) (d m n : Int) (gd : Gd (acK K d m n).b) : Bz (acK K d m n) (k + 1) := by
  have he : K.l.ep + 1 ≤ 9007199254740992 := by have := h.e; omega
  revert gd
  unfold acK
  split
  · exact fun gd => h.stp (stp_fail h.q he m gd)
  · split
    · exact fun gd => h.stp (stp_rep h.q he m gd)
    · exact fun gd => h.stp (stp_adv h.q he m n gd)
set_option maxRecDepth 20000 in
theorem bz_begin (x0 x1 : Int) (gd : Gd (bgK x0 x1).b) : Bz (bgK x0 x1) 0 := by
  have A := bg_all x0 x1
  have h4 : 4 ≤ bgN x0 := by unfold bgN; omega
  have h7 : bgN x0 ≤ 7 := by unfold bgN; omega
  have hs1 : 1 ≤ bgS x1 := by unfold bgS; omega
  have hs6 : bgS x1 ≤ 6 := by unfold bgS; omega
  obtain ⟨q1, q2, q3, q4, q5⟩ := nw_bay (bgN x0) 110 (by omega) (by omega) (by omega) (by omega)
  have hf := fm_new (bgN x0) (bgS x1) 110 (by omega) (by omega) (by omega) (by omega) (by omega) (by omega)
  obtain ⟨a1, a2, a3, a4⟩ := fm_ok (z := 110) q1 q2 hf
  have hlen1 : (bgB1 x0 x1).ms.length = bgN x0 := a4.trans q3
  have hal : ∀ i, ddB (bgB1 x0 x1) i = false := fun i => by
    by_cases h : i < bgN x0
    · exact a2 i (by rw [q3]; exact h)
    · unfold ddB
      rw [List.getD_eq_getElem?_getD, List.getElem?_eq_none (by rw [hlen1]; omega)]
      rfl
  refine ⟨bq_open (B := bgB1 x0 x1) (L := newL (bgN x0 : Nat) (bgS x1 : Nat)) (z := 110) a1 (by show (1 : Int) + 1 ≤ _; omega) ⟨0, by rw [hlen1]; omega, hal 0⟩ gd hal, ?_, by have := A.g; omega⟩
  rw [A.k]
  show (2 : Int) ≤ 2 + ((0 : Nat) : Int)
  omega

/-! ### the last change -/
structure Sz (K K' : KS) : Prop where
  s : K'.l.sts.length = K.l.sts.length
  m : K'.l.mks.length = K.l.mks.length
  g : K'.b.g ≤ K.b.g + 64
theorem Sz.refl (K : KS) : Sz K K := ⟨rfl, rfl, by omega⟩
theorem sz_pub {K K1 : KS} (hl : K1.l = K.l) (hg : K1.b.g = K.b.g) (hn : K1.b.ms.length ≤ 32) (M : LB) (h1 : M.sts.length = K.l.sts.length) (h2 : M.mks.length = K.l.mks.length) : Sz K (puK K1 M) := by
  have g := (pbF_g ((K1.l.ep + 1) % 2) (puS (nx K1 M)) (lvL 0 K1.b.ms) K1.b).1
  have hll := lvL_len K1.b.ms 0
  refine ⟨?_, ?_, ?_⟩
  · unfold puK; dsimp only
    split
    · rw [hl]
    · exact h1
  · unfold puK; dsimp only
    split
    · rw [hl]
    · exact h2
  · show (pbF ((K1.l.ep + 1) % 2) (puS (nx K1 M)) (lvL 0 K1.b.ms) K1.b).1.g ≤ _
    omega
theorem chL_len (L : LB) (m : Nat) (st mk : Int) : (chL L m st mk).sts.length = L.sts.length ∧ (chL L m st mk).mks.length = L.mks.length := by
  unfold chL; simp
theorem sz_fail {K : KS} (hn : K.b.ms.length ≤ 32) (m : Int) : Sz K (bfK K m) := by
  unfold bfK
  split
  · split
    · exact Sz.refl K
    · exact sz_pub (K := K) (K1 := faK K m) rfl rfl (by show (K.b.ms.set _ _).length ≤ 32; simpa using hn) _ (chL_len _ _ _ _).1 (chL_len _ _ _ _).2
  · exact Sz.refl K
theorem sz_rep {K : KS} (hn : K.b.ms.length ≤ 32) (m : Int) : Sz K (brK K m) := by
  unfold brK
  split
  · split
    · exact sz_pub (K := K) (K1 := rpK K m) rfl rfl (by show (K.b.ms.set _ _).length ≤ 32; simpa using hn) _ (chL_len _ _ _ _).1 (chL_len _ _ _ _).2
    · exact Sz.refl K
  · exact Sz.refl K
theorem sz_adv {K : KS} (hn : K.b.ms.length ≤ 32) (m t : Int) : Sz K (baK K m t) := by
  unfold baK
  split
  · refine sz_pub (K1 := K) rfl rfl hn _ ?_ ?_
    · unfold baM; split <;> exact (chL_len _ _ _ _).1
    · unfold baM; split <;> exact (chL_len _ _ _ _).2
  · exact Sz.refl K
structure Lst (K K' : KS) (E : Int) (op m : Int) : Prop where
  f : ∀ ks, Fin K K' E (fun i => (i : Int) = m ∨ op % 4 = 1) 110 (crB K'.b ks)
  z : Sz K K'
theorem Fin.wide {K K' : KS} {E : Int} {ch ch' : Nat → Prop} {z : Nat} {D : BS} (h : Fin K K' E ch z D) (hc : ∀ i, ch i → ch' i) : Fin K K' E ch' z D := ⟨h.e, h.ep, h.lp, fun i hi hh => hc i (h.r1 i hi hh), h.r2, h.n, h.ev⟩
theorem ct_ok {K : KS} (ok : Kok K) (n : Int) : Kok (ctK K n) := ⟨ok.n, ok.s, ok.m, ok.e0, ok.e1, ok.g⟩
theorem lst_fail {K : KS} {k : Nat} (h : Bz K k) (hk : k ≤ 100) (tw : Two K.b) (hn : K.b.ms.length ≤ 32) (n m op : Int) : Lst K (bfK (ctK K n) m) (bfE (ctK K n) m) op m :=
  have z := sz_fail (K := ctK K n) hn m
  ⟨fun ks => (fin_fail h.q tw (by have := h.e; omega) n m ks).wide (fun i hi => .inl hi), z.s, z.m, z.g⟩
theorem lst_rep {K : KS} {k : Nat} (h : Bz K k) (hk : k ≤ 100) (tw : Two K.b) (hn : K.b.ms.length ≤ 32) (n m op : Int) : Lst K (brK (ctK K n) m) (brE (ctK K n) m) op m :=
  have z := sz_rep (K := ctK K n) hn m
  ⟨fun ks => (fin_rep h.q tw (by have := h.e; omega) n m ks).wide (fun i hi => .inl hi), z.s, z.m, z.g⟩
theorem lst_adv {K : KS} {k : Nat} (h : Bz K k) (hk : k ≤ 100) (tw : Two K.b) (hn : K.b.ms.length ≤ 32) (n m t op : Int) : Lst K (baK (ctK K n) m t) (baE (ctK K n) m t) op m :=
  have z := sz_adv (K := ctK K n) hn m t
  ⟨fun ks => (fin_adv h.q tw (by have := h.e; omega) n m t ks).wide (fun i hi => .inl hi), z.s, z.m, z.g⟩
theorem lst_next {K : KS} {k : Nat} (h : Bz K k) (hk : k ≤ 100) (tw : Two K.b) (hn : K.b.ms.length ≤ 32) (n m t op m' : Int) (ho : op % 4 = 1) : Lst K (baK (ctK K n) m t) (baE (ctK K n) m t) op m' :=
  have z := sz_adv (K := ctK K n) hn m t
  ⟨fun ks => (fin_adv h.q tw (by have := h.e; omega) n m t ks).wide (fun i hi => .inr ho), z.s, z.m, z.g⟩

/-! ### a label of the call's own -/
structure Ob (V : World) (x : Nat) (T : List Nat) (bx : Nat) (L : LB) (u1 u2 : Value) : Prop where
  lc : Lc V bx L.n L.s L.ep u1 u2
  n1 : Nl V u1 L.sts
  n2 : Nl V u2 L.mks
  b : bx ∉ x :: T ∧ bx < V.heap.size
  r1 : ∀ q, u1.ownBlock = some q → q ∉ x :: T ∧ q < V.heap.size
  r2 : ∀ q, u2.ownBlock = some q → q ∉ x :: T ∧ q < V.heap.size
theorem Ob.kp {V V' : World} {x : Nat} {T : List Nat} {bx : Nat} {L : LB} {u1 u2 : Value} (h : Ob V x T bx L u1 u2) (k : Kp V V') : Ob V' x T bx L u1 u2 :=
  ⟨h.lc.kept k, h.n1.kept k, h.n2.kept k, ⟨h.b.1, Nat.lt_of_lt_of_le h.b.2 k.size⟩, fun q hq => ⟨(h.r1 q hq).1, Nat.lt_of_lt_of_le (h.r1 q hq).2 k.size⟩, fun q hq => ⟨(h.r2 q hq).1, Nat.lt_of_lt_of_le (h.r2 q hq).2 k.size⟩⟩
theorem Ob.sp {V V' : World} {x : Nat} {T T' : List Nat} {bx : Nat} {L : LB} {u1 u2 : Value} (h : Ob V x T bx L u1 u2) (s : Sp (x :: T) V V') (n : Nw V T T') : Ob V' x T' bx L u1 u2 :=
  ⟨⟨s.held h.lc.c0 h.b.1, s.held h.lc.c1 h.b.1, s.held h.lc.c2 h.b.1, s.held h.lc.c3 h.b.1, s.held h.lc.c4 h.b.1⟩, h.n1.sp s (fun q hq => (h.r1 q hq).1), h.n2.sp s (fun q hq => (h.r2 q hq).1), ⟨nw_nc n h.b.2 h.b.1, Nat.lt_of_lt_of_le h.b.2 s.size⟩, fun q hq => ⟨nw_nc n (h.r1 q hq).2 (h.r1 q hq).1, Nat.lt_of_lt_of_le (h.r1 q hq).2 s.size⟩, fun q hq => ⟨nw_nc n (h.r2 q hq).2 (h.r2 q hq).1, Nat.lt_of_lt_of_le (h.r2 q hq).2 s.size⟩⟩
theorem Ob.new {w V : World} {x : Nat} {T : List Nat} {L : LB} {u1 u2 : Value} (tw : Tw V w.heap.size u1 u2 L.sts L.mks) (k : Kp w V) (hT : ∀ t, t ∈ x :: T → t < w.heap.size) (t : TypeId) : Ob (V.alloc (.cells #[.int .i64 L.n, .int .i64 L.s, .int .i64 L.ep, u1, u2] t)) x T V.heap.size L u1 u2 := by
  have ka : Kp V (V.alloc (.cells #[.int .i64 L.n, .int .i64 L.s, .int .i64 L.ep, u1, u2] t)) := (Kp.refl V).alloc _
  have lc : Lc (V.alloc (.cells #[.int .i64 L.n, .int .i64 L.s, .int .i64 L.ep, u1, u2] t)) V.heap.size L.n L.s L.ep u1 u2 := Lc.new V _ _ _ _ _ _
  have ks := k.size
  refine ⟨lc, tw.n1.kept ka, tw.n2.kept ka, ⟨fun hm => by have := hT _ hm; omega, World.block_lt_of_cell? _ _ lc.c0⟩, fun q hq => ?_, fun q hq => ?_⟩
  · obtain ⟨h1, h2⟩ := tw.lo1 q hq
    exact ⟨fun hm => by have := hT _ hm; omega, Nat.lt_of_lt_of_le h2 ka.size⟩
  · obtain ⟨h1, h2⟩ := tw.lo2 q hq
    exact ⟨fun hm => by have := hT _ hm; omega, Nat.lt_of_lt_of_le h2 ka.size⟩
theorem Nl.cell {w : World} {g n c : Nat} {l : List Int} (h : Nl w (.slice (some ⟨g, 0, none⟩) n c) l) (j : Nat) (hj : j < l.length) : w.cell? ⟨g, j, none⟩ = some (.int .i64 (l.getD j 0)) := by
  obtain ⟨g', off, cap, e, h1, h2, h3⟩ := h.at (by omega)
  simp only [Value.slice.injEq, Option.some.injEq, Addr.mk.injEq] at e
  obtain ⟨⟨rfl, rfl, _⟩, _, _⟩ := e
  have := h3 j hj
  rw [Nat.zero_add] at this
  exact this
theorem PY.bayN {w0 w w' : World} {v x b : Nat} {T T' : List Nat} {K : KS} {B : BS} {sv mv : Value} (h : PY w0 w v x b T K sv mv) (o : Bw w0 w' b T' B) (s : Sp T w w') (n : Nw w T T') : PY w0 w' v x b T' ⟨B, K.l⟩ sv mv :=
  have hv : v ∉ T := fun ht => h.nv (List.mem_cons_of_mem _ ht)
  ⟨s.held h.c0 hv, s.held h.c1 hv, fun o => (s.frozen h.lt hv o).trans (h.fz o), h.kx.bayX o s n, nw_nc n h.lt h.nv, h.lv⟩
theorem PY.tl {w0 w : World} {v x b : Nat} {T : List Nat} {K : KS} {sv mv : Value} (h : PY w0 w v x b T K sv mv) : ∀ t, t ∈ x :: T → t < w.heap.size := fun t ht => by
  rcases List.mem_cons.1 ht with e | e
  · rw [e]; exact h.kx.hx
  · exact OL.bw.low h.kx.bay t e
theorem PY.kzo {w0 w w' : World} {v x b : Nat} {T : List Nat} {K K' : KS} {sv mv : Value} {bx : Nat} {L : LB} {u1 u2 : Value} (h : PY w0 w v x b T K sv mv) (ob : Ob w x T bx L u1 u2) (z : Kz w0 w w' x b T K') : ∃ T' s m, PY w0 w' v x b T' K' s m ∧ Ob w' x T' bx L u1 u2 := by
  obtain ⟨T', s, m, h1, h2, h3⟩ := z
  exact ⟨T', s, m, ⟨h2.held h.c0 h.nv, h2.held h.c1 h.nv, fun o => (h2.frozen h.lt h.nv o).trans (h.fz o), h1, nw_nc h3 h.lt h.nv, h.lv⟩, ob.sp h2 h3⟩

end Go.Proofs.YtinpkfdmellleaaGreat
