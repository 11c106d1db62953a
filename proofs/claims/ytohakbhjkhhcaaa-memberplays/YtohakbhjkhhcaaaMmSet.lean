/-
  Sets of texts in maps of the call's own; what a crash may leave. No condition.
-/
import Derived.Test.YtohakbhjkhhcaaaMmTri
import Derived.Maps.OwnSet
import Derived.StringKeys
namespace Go.Proofs.Ytohakbhjkhhcaaa
open Go.RowKit Plain Go.Maps Go.WideMaps
set_option linter.unusedVariables false

/-! ### what may be there -/
theorem pl_at : ∀ (r : List (Nat × ByteArray)) (l : List ByteArray) (i : Nat), (pl l r).getD i noS = l.getD i noS ∨ ∃ p ∈ r, p.1 = i ∧ (pl l r).getD i noS = p.2
  | [], _, _ => .inl rfl
  | p :: r, l, i => by
    simp only [pl]
    rcases pl_at r (l.set p.1 p.2) i with h | ⟨q, hq, h1, h2⟩
    · by_cases e : p.1 = i
      · by_cases hl : i < l.length
        · right
          refine ⟨p, List.mem_cons_self, e, ?_⟩
          rw [h, ← e]
          exact getD_set_eq (by rw [e]; exact hl) _ _
        · left
          rw [h, List.set_eq_of_length_le (by omega)]
      · left; rw [h]; exact getD_set_ne e _ _
    · right; exact ⟨q, List.mem_cons_of_mem _ hq, h1, h2⟩
theorem wrs_mem : ∀ (L : List AC) (S : MS), ∀ p ∈ (wrs S L).row, p ∈ S.row ∨ ∃ a ∈ L, a.at_ = (p.1 : Int) ∧ p.2 = scS a.data false
  | [], _, p, h => .inl h
  | a :: L, S, p, h => by
    rcases wrs_mem L _ p h with h1 | ⟨a', h1, h2⟩
    · unfold wr at h1
      split at h1
      · rename_i hw
        have h0 := rc_ok (wr_ok hw).1
        rcases List.mem_append.1 h1 with h2 | h2
        · exact .inl h2
        · right
          rw [List.mem_singleton.1 h2]
          exact ⟨a, List.mem_cons_self, by show a.at_ = ((a.at_.toNat : Nat) : Int); omega, rfl⟩
      · exact .inl h1
    · exact .inr ⟨a', List.mem_cons_of_mem _ h1, h2⟩
/-- what may be found in a sector. -/
def may (B : List ByteArray) (L : List AC) (i : Nat) (s : ByteArray) : Prop := s = B.getD i noS ∨ ∃ a ∈ L, a.at_ = (i : Int) ∧ s = scS a.data false
theorem may_crash {S : MS} {L : List AC} (h0 : S.row = []) (f : Nat → Bool) (i : Nat) : may S.las L i ((cr (wrs S L) f).now.getD i noS) := by
  show may S.las L i ((pl (wrs S L).las (tk (fun k _ => f k) 0 (wrs S L).row)).getD i noS)
  rw [(wrs_row L S).2.2]
  rcases pl_at (tk (fun k _ => f k) 0 (wrs S L).row) S.las i with h | ⟨p, hp, h1, h2⟩
  · exact .inl h
  · rcases wrs_mem L S p (tk_mem _ _ _ p hp) with h3 | ⟨a, h3, h4, h5⟩
    · rw [h0] at h3; cases h3
    · exact .inr ⟨a, h3, by rw [h4, h1], by rw [h2, h5]⟩

theorem may_step {B : List ByteArray} {L : List AC} {k : Nat} (h : k < L.length) {i : Nat} {s : ByteArray} (hm : may B (L.take (k + 1)) i s) : may B (L.take k) i s ∨ ((L.getD k noA).at_ = (i : Int) ∧ s = scS (L.getD k noA).data false) := by
  have e : L.take (k + 1) = L.take k ++ [L.getD k noA] := by
    rw [List.take_add_one, List.getElem?_eq_getElem h, List.getD_eq_getElem?_getD, List.getElem?_eq_getElem h]
    rfl
  rw [e] at hm
  rcases hm with h1 | ⟨a, h1, h2⟩
  · exact .inl (.inl h1)
  · rcases List.mem_append.1 h1 with h3 | h3
    · exact .inl (.inr ⟨a, h3, h2⟩)
    · rw [List.mem_singleton.1 h3] at h2; exact .inr h2
/-! ### sets of texts -/
theorem zeroB (w : World) : (zeroValue 4).run Try.prog w = .ok (.bool false) w := by kernel_rfl
set_option maxRecDepth 100000 in
theorem elem_bool {v : Value} {z : DataW Unit × List MemPlace} (h : plainElem Try.prog 4 v = some z) : ∃ x, v = .bool x ∧ z = (.lit (.bool x), []) := by
  unfold plainElem at h
  rw [Try.underlying4] at h
  cases v <;> simp at h
  exact ⟨_, rfl, h.symm⟩
theorem str_key : Keyed Try.prog 9 := string_keyed Try.underlying9
theorem str_lit (s : ByteArray) (hs : s.size ≤ 64) : keyOf Try.prog 9 (.string s) = some (.string s.data.toList) := keyOf_string_mk Try.underlying9 (by unfold maxLen; omega)
/-- block b is a map where the texts of S are true. -/
def YesM (w : World) (b c : Nat) (S : ByteArray → Prop) : Prop :=
  ∃ n, ∃ D : DataW Unit, n ≤ c ∧ w.ownsMap Try.prog 9 (plainElem Try.prog 4) b n D ∧ ∀ s, s.size ≤ 64 → S s → D.atKey (.string s.data.toList) (.lit (.bool false)) = .lit (.bool true)
theorem YesM.made (w : World) : YesM (w.alloc (.map #[] 0)) w.heap.size 0 (fun _ => False) :=
  ⟨0, .map [], Nat.le_refl _, World.ownsMap_made w _ _ _, fun _ _ h => h.elim⟩
theorem YesM.sp {w w' : World} {b c : Nat} {S : ByteArray → Prop} (h : YesM w b c S) {T : List Nat} (k : Sp T w w') (hb : b ∉ T) : YesM w' b c S := by
  obtain ⟨n, D, h0, h1, h2⟩ := h
  have hlt := h1.lt
  obtain ⟨es, clock, he, F⟩ := h1
  exact ⟨n, D, h0, ⟨es, clock, (k.block b hlt hb).trans he, F⟩, h2⟩
theorem YesM.lt {w : World} {b c : Nat} {S : ByteArray → Prop} (h : YesM w b c S) : b < w.heap.size := by
  obtain ⟨n, D, _, h1, _⟩ := h
  exact h1.lt
theorem YesM.sub {w : World} {b c c' : Nat} {S S' : ByteArray → Prop} (h : YesM w b c S) (hc : c ≤ c') (hs : ∀ s, S' s → S s) : YesM w b c' S' := by
  obtain ⟨n, D, h0, h1, h2⟩ := h
  exact ⟨n, D, by omega, h1, fun s hz hh => h2 s hz (hs s hh)⟩
theorem YesM.look {w : World} {b c : Nat} {S : ByteArray → Prop} (h : YesM w b c S) (s : ByteArray) (hz : s.size ≤ 64) (hs : S s) : (Instr.lookup 47 (.map (some b)) (.string s) false).run Try.prog w = .ok (.bool true) w := by
  obtain ⟨n, D, h0, h1, h2⟩ := h
  obtain ⟨v, ps, hrun, hv⟩ := h1.lookup str_key Try.underlying47 (zeroB w) (plainElem_bool Try.underlying4 false) (str_lit s hz)
  rw [h2 s hz hs] at hv
  obtain ⟨x, rfl, hx⟩ := elem_bool hv
  simp only [Prod.mk.injEq, DataW.lit.injEq, Lit.bool.injEq] at hx
  obtain rfl : x = true := hx.1.symm
  exact hrun
theorem YesM.put {w : World} {b c : Nat} {S : ByteArray → Prop} (h : YesM w b c S) (s : ByteArray) (hz : s.size ≤ 64) (hc : c < 1000000) :
    ∃ w', (Instr.mapUpdate 47 (.map (some b)) (.string s) (.bool true)).run Try.prog w = .ok () w' ∧ YesM w' b (c + 1) (fun t => S t ∨ t = s) ∧ Sp [b] w w' := by
  obtain ⟨n, D, h0, h1, h2⟩ := h
  obtain ⟨w', hrun, ho, hg⟩ := h1.update str_key Try.underlying47 (by unfold maxLen; omega) (str_lit s hz) (plainElem_bool Try.underlying4 true)
  refine ⟨w', hrun, ⟨n + 1, _, by omega, ho, fun t ht hh => ?_⟩, ⟨hg.os, hg.tape, hg.output, hg.size, fun k hk hn => hg.block k hk (fun e => hn (by cases e; simp))⟩⟩
  by_cases e : t = s
  · rw [e]
    exact Maps.atKey_put_same h1.isMap (str_key.key (str_lit s hz)) _ _
  · rw [Maps.atKey_put_other (fun e2 => e (by
      have := str_key.inj (str_lit t ht) (by rw [e2]; exact str_lit s hz)
      cases this
      rfl))]
    exact h2 t ht (hh.resolve_right e)
/-- the first k of sixteen maps, at block M. -/
structure May (w : World) (M k c : Nat) (f : Nat → Nat) (S : Nat → ByteArray → Prop) : Prop where
  cell : ∀ i, i < k → w.cell? ⟨M, i, none⟩ = some (.map (some (f i)))
  yes : ∀ i, i < k → YesM w (f i) c (S i)
  inj : ∀ i j, i < k → j < k → f i = f j → i = j
  ne : ∀ i, i < k → f i ≠ M
  t : w.there M 0 16
  hM : M < w.heap.size
theorem May.sp {w w' : World} {M k c : Nat} {f : Nat → Nat} {S : Nat → ByteArray → Prop} (h : May w M k c f S) {T : List Nat} (q : Sp T w w') (hM : M ∉ T) (hf : ∀ i, i < k → f i ∉ T) : May w' M k c f S :=
  ⟨fun i hi => q.held (h.cell i hi) hM, fun i hi => (h.yes i hi).sp q (hf i hi), h.inj, h.ne, q.there h.t hM, Nat.lt_of_lt_of_le h.hM q.size⟩
/-- another map at place k. -/
theorem May.more {w w1 : World} {M k c b : Nat} {f : Nat → Nat} {S : Nat → ByteArray → Prop} (h : May w M k c f S) (hk : k < 16) (q : Sp [] w w1) (hb : w.heap.size ≤ b) (hb1 : b < w1.heap.size) (hy : YesM w1 b c (S k)) : May (w1.setCell ⟨M, k, none⟩ (.map (some b))) M (k + 1) c (fun i => if i = k then b else f i) S := by
  have h1 := h.sp q (by simp) (fun _ _ => by simp)
  have hMb : M ≠ b := by have := h.hM; omega
  have sM : Sp [M] w1 (w1.setCell ⟨M, k, none⟩ (.map (some b))) := (Sp.refl [M] w1).set M k (by simp) _
  have hfl : ∀ i, i < k → f i ≠ b := fun i hi => by have := (h.yes i hi).lt; omega
  obtain ⟨t1, t2⟩ := h1.t k hk
  rw [Nat.zero_add] at t1 t2
  obtain ⟨v, hv⟩ := Option.isSome_iff_exists.1 t1
  refine ⟨fun i hi => ?_, fun i hi => ?_, fun i j hi hj e => ?_, fun i hi => ?_, fun j hj => ?_, Nat.lt_of_lt_of_le h1.hM sM.size⟩
  · by_cases e : i = k
    · subst e; show _ = some (Value.map (some (if i = i then b else f i))); rw [if_pos rfl]; exact World.cell?_setCell_same _ _ _ hv
    · show _ = some (Value.map (some (if i = k then b else f i))); rw [if_neg e, cell_off _ _ _ _ _ e]; exact h1.cell i (by omega)
  · by_cases e : i = k
    · subst e; show YesM _ (if i = i then b else f i) c (S i); rw [if_pos rfl]; exact hy.sp sM (by simpa using hMb.symm)
    · show YesM _ (if i = k then b else f i) c (S i); rw [if_neg e]; exact (h1.yes i (by omega)).sp sM (by simpa using h.ne i (by omega))
  · have e : (if i = k then b else f i) = (if j = k then b else f j) := e
    by_cases e1 : i = k
    · by_cases e2 : j = k
      · omega
      · rw [if_pos e1, if_neg e2] at e; exact absurd e.symm (hfl j (by omega))
    · by_cases e2 : j = k
      · rw [if_neg e1, if_pos e2] at e; exact absurd e (hfl i (by omega))
      · rw [if_neg e1, if_neg e2] at e; exact h.inj i j (by omega) (by omega) e
  · show (if i = k then b else f i) ≠ M
    by_cases e : i = k
    · rw [if_pos e]; exact hMb.symm
    · rw [if_neg e]; exact h.ne i (by omega)
  · obtain ⟨u1, u2⟩ := h1.t j hj
    refine ⟨?_, (World.frozen?_setCell _ _ _ _).trans u2⟩
    by_cases e : 0 + j = k
    · rw [e, World.cell?_setCell_same _ _ _ hv]; rfl
    · rw [cell_off _ _ _ _ _ e]; exact u1
/-- a text put into one of them. -/
theorem May.put {w w' : World} {M k c : Nat} {f : Nat → Nat} {S S' : Nat → ByteArray → Prop} (h : May w M k c f S) (i : Nat) (hi : i < k) (q : Sp [f i] w w') (hy : YesM w' (f i) (c + 1) (S' i)) (hs : ∀ j, j ≠ i → ∀ s, S' j s → S j s) : May w' M k (c + 1) f S' := by
  have hM : M ∉ [f i] := by simpa using (h.ne i hi).symm
  refine ⟨fun j hj => q.held (h.cell j hj) hM, fun j hj => ?_, h.inj, h.ne, q.there h.t hM, Nat.lt_of_lt_of_le h.hM q.size⟩
  by_cases e : j = i
  · subst e; exact hy
  · exact ((h.yes j hj).sp q (by simp; exact fun e2 => e (h.inj j i hj hi e2))).sub (by omega) (hs j e)
theorem May.sub {w : World} {M k c c' : Nat} {f : Nat → Nat} {S S' : Nat → ByteArray → Prop} (h : May w M k c f S) (hc : c ≤ c') (hs : ∀ j, j < k → ∀ s, S' j s → S j s) : May w M k c' f S' := ⟨h.cell, fun i hi => (h.yes i hi).sub hc (hs i hi), h.inj, h.ne, h.t, h.hM⟩
/-- behind calls on one member, from W on. -/
def Ry (w0 W : World) (b : Nat) (T : List Nat) (S : MS) (w' : World) : Prop := ∃ T', Ow w0 w' b T' S ∧ Sp T W w' ∧ Nw W T T'
theorem Ry.refl {w0 W : World} {b : Nat} {T : List Nat} {S : MS} (h : Ow w0 W b T S) : Ry w0 W b T S W := ⟨T, h, Sp.refl _ _, Nw.refl _ _⟩
theorem Ry.kp {w0 W w' w'' : World} {b : Nat} {T : List Nat} {S : MS} (h : Ry w0 W b T S w') (k : Kp w' w'') : Ry w0 W b T S w'' := by
  obtain ⟨T', h1, h2, h3⟩ := h
  exact ⟨T', h1.kp k, h2.trans (k.sp _), h3⟩
theorem Ry.below {w0 W w' : World} {b : Nat} {T : List Nat} {S : MS} (h : Ry w0 W b T S w') (K : Kp w0 W) (hT : ∀ t, t ∈ T → w0.heap.size ≤ t) : Kp w0 w' := by
  obtain ⟨T', h1, h2, h3⟩ := h
  exact Sp.kp K h2 hT
theorem Ry.held {w0 W w' : World} {b : Nat} {T : List Nat} {S : MS} (h : Ry w0 W b T S w') {g o : Nat} {v : Value} (hc : W.cell? ⟨g, o, none⟩ = some v) (hb : g ∉ T) : w'.cell? ⟨g, o, none⟩ = some v := by
  obtain ⟨T', h1, h2, h3⟩ := h
  exact h2.held hc hb
theorem Ry.call {w0 W w' : World} {b : Nat} {T : List Nat} {S S' : MS} (K : Kp w0 W) (hT : ∀ t, t ∈ T → w0.heap.size ≤ t) (h : Ry w0 W b T S w') {F : FuncId} {args : Array Value} {E : Ending → Prop}
    (hc : ∀ P, Ow w0 w' b P S → Kp w0 w' → Calls Try.prog F args w' fun e w'' => E e ∧ Nx w0 w' w'' b P S') : Calls Try.prog F args w' fun e w'' => E e ∧ Ry w0 W b T S' w'' := by
  have K' := h.below K hT
  obtain ⟨T', h1, h2, h3⟩ := h
  refine (hc T' h1 K').mono fun e w'' ⟨he, P', p1, p2, p3⟩ => ⟨he, P', p1, h2.then p2 h3, h3.trans p3 h2.size⟩
theorem Ry.trans {w0 W W' w' : World} {b : Nat} {T T' : List Nat} {S : MS} (h2 : Sp T W W') (h3 : Nw W T T') (h : Ry w0 W' b T' S w') : Ry w0 W b T S w' := by
  obtain ⟨T2, q1, q2, q3⟩ := h
  exact ⟨T2, q1, h2.then q2 h3, h3.trans q3 h2.size⟩
theorem wpList_update_run {w : World} {ops : Array Oper} {rest : List Oper} {o : Oper} {a : Act} {Q : Exit → Act → World → Prop} (hgd : o.guard = none) (m k x : Operand) (t : TypeId) (ho : o.op = .mapUpdate t m k x) (mv kv xv : Value) (w' : World) (hm : a.eval m = mv) (hk : a.eval k = kv) (hx : a.eval x = xv)
    (hrun : (Instr.mapUpdate t mv kv xv).run Try.prog w = .ok () w') (h : wpList Try.prog ops Q rest (a.put o.dst undef) w') : wpList Try.prog ops Q (o :: rest) a w := by
  refine wpList_plain hgd fun K hK' => ?_
  unfold Oper.wp
  simp [execOp, ho, hm, hk, hx, hrun, Result.andThen]
  exact hK' _ _ h
theorem info_map : (Try.prog.info? 47).map (fun i => (i.zero, i.size, i.bytes)) = some (some (.map none), 1, 8) := by kernel_rfl
theorem KeIn.take {w : World} {a : Option Addr} {n cap : Nat} {ks : List Nat} (h : KeIn w (.slice a n cap) ks) (m : Nat) (hm : m ≤ n) : KeIn w (.slice a m cap) (ks.take m) := by
  obtain ⟨a', cap', e, h1, h2, h3⟩ := h.h
  simp only [Value.slice.injEq] at e
  obtain ⟨rfl, rfl, rfl⟩ := e
  have hl : (ks.take m).length = m := by rw [List.length_take]; omega
  refine ⟨⟨a, cap, by rw [hl], by rw [hl]; omega, h2, fun h0 => ?_⟩, fun y hy => h.z y (List.mem_of_mem_take hy)⟩
  rw [hl] at h0
  obtain ⟨g, off, rfl, h4⟩ := h3 (by omega)
  refine ⟨g, off, rfl, fun i hi => ?_⟩
  rw [hl] at hi
  rw [h4 i (by omega), List.getD_eq_getElem?_getD, List.getD_eq_getElem?_getD, List.getElem?_take_of_lt hi]
set_option maxRecDepth 100000 in
theorem open_kept2 {H : Type} {enc : TypeId × Value → H} {W : World} {b0 : Nat} {v : Value} {d : DataW H} {ps : List MemPlace} (hv : Value.okWide Try.prog W .any b0 29 v) (h : DataW.Trod enc Try.prog W 0 (fun _ => true) true 29 v d ps) : ∃ ks : List Nat, KeIn W v ks ∧ ∀ a n c, v = .slice a n c → n ≤ c := by
  obtain ⟨ks, hk⟩ := open_kept hv h
  refine ⟨ks, hk, fun a n c e => ?_⟩
  subst e
  obtain ⟨fuel, hf⟩ := h
  rcases Go.ChangeShapes.open_ints Try.underlying29 Try.underlying54 (by kernel_rfl) hf with ⟨hcs, _⟩ | ⟨a', len, cap, zs, hcs, _, hl, hm, hz, _, hcell, hwf⟩
  · simp [Value.cells] at hcs
    omega
  · simp [Value.cells] at hcs
    obtain ⟨_, rfl, rfl⟩ := hcs
    exact hl

end Go.Proofs.Ytohakbhjkhhcaaa
