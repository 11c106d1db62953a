/-
  Writes loaded, stored, appended: laws at one operation of a region that draws. Conditions: that the cells are there.
-/
import Derived.Test.YtmklkdopmemfaaaMmFlush
import Derived.Deep.RegionLaw
import Derived.Great.BuildSlice
import Derived.Great.FillDense
namespace Go.Proofs.Ytmklkdopmemfaaa
open Go.RowKit Plain
set_option linter.unusedVariables false

theorem step_of {ops : Array Oper} {o : Oper} {a : Act} {w : World} {K : Act → World → Prop} {Q : Exit → Act → World → Prop} {E : Prop} (hgd : o.guard = none) (h : Oper.wp Try.prog o a w K Q) : if Region.wanted o (yielded ops a.tmps) = true then Oper.wp Try.prog o a w K Q else E := by
  rw [if_pos (by simp [Region.wanted, hgd])]
  exact h
section
variable {P : Program} {ops : Array Oper} {Q : Exit → Act → World → Prop} {md : Region.Mode} {S : World → Prop}
/-- one alone may come up. -/
theorem held_one {fuel : Nat} {listed : Array Bool} {a : Act} {w : World} (i : Nat) (o : Oper) (hr : Region.ready md ops listed = [i]) (ho : ops[i]? = some o) (hg : o.guard = none)
    (h : ∀ K' : Act → World → Prop, (∀ a w, S w → wpAnyH P md ops Q S fuel (listed.setIfInBounds i true) a w → K' a w) → Oper.wp P o a w K' Q) : wpAnyH P md ops Q S (fuel + 1) listed a w := by
  refine wpAnyH_all hr (by simp) (fun k hk => ?_)
  obtain rfl : k = i := by simpa using hk
  exact wpOp_step ho (fun K' hK => by rw [if_pos (by simp [Region.wanted, hg])]; exact h K' (fun a w h1 h2 => hK a w ⟨h1, h2⟩))
/-- two may come up. -/
theorem held_two {fuel : Nat} {listed : Array Bool} {a : Act} {w : World} (i j : Nat) (o o' : Oper) (hr : Region.ready md ops listed = [i, j]) (ho : ops[i]? = some o) (ho' : ops[j]? = some o') (hg : o.guard = none) (hg' : o'.guard = none)
    (h : ∀ K' : Act → World → Prop, (∀ a w, S w → wpAnyH P md ops Q S fuel (listed.setIfInBounds i true) a w → K' a w) → Oper.wp P o a w K' Q)
    (h' : ∀ K' : Act → World → Prop, (∀ a w, S w → wpAnyH P md ops Q S fuel (listed.setIfInBounds j true) a w → K' a w) → Oper.wp P o' a w K' Q) : wpAnyH P md ops Q S (fuel + 1) listed a w := by
  refine wpAnyH_all hr (by simp) (fun k hk => ?_)
  have : k = i ∨ k = j := by simpa using hk
  rcases this with rfl | rfl
  · exact wpOp_step ho (fun K' hK => by rw [if_pos (by simp [Region.wanted, hg])]; exact h K' (fun a w h1 h2 => hK a w ⟨h1, h2⟩))
  · exact wpOp_step ho' (fun K' hK => by rw [if_pos (by simp [Region.wanted, hg'])]; exact h' K' (fun a w h1 h2 => hK a w ⟨h1, h2⟩))
end
theorem wp_load_w {o : Oper} {a : Act} {w : World} {K : Act → World → Prop} {Q : Exit → Act → World → Prop} (x : Operand) (ho : o.op = .load 112 x) (g off : Nat) (hx : a.eval x = .pointer (some ⟨g, off, none⟩)) (p : Nat × ByteArray) (hz : p.2.size = 64) (hr : w.rangeAt g off (wc p))
    (h : K (a.put o.dst (.agg (wc p).toArray)) w) : Oper.wp Try.prog o a w K Q :=
  wp_load_mid 112 x ho g off hx (wc p) _ hr Try.underlying112 rfl (by rw [wc_len, hz]; kernel_rfl) h
theorem wp_load_one {o : Oper} {a : Act} {w : World} {K : Act → World → Prop} {Q : Exit → Act → World → Prop} (t : TypeId) (x : Operand) (ho : o.op = .load t x) (ha : ∀ w, (isAgg t).run Try.prog w = .ok false w) (g off : Nat) (v : Value) (hx : a.eval x = .pointer (some ⟨g, off, none⟩)) (hr : w.cell? ⟨g, off, none⟩ = some v)
    (h : K (a.put o.dst v) w) : Oper.wp Try.prog o a w K Q := by
  unfold Oper.wp execOp
  have hl : (load ⟨g, off, none⟩).run Try.prog w = .ok v w := by simp [load, Sem.run, hr, go_sem]
  simp only [ho, hx, Instr.loadAt, Instr.sureAddr, Sem.run_bind, Sem.run_pure, Result.andThen_ok, loadVar, ha, Bool.false_eq_true, if_false, hl]
  exact h
theorem wp_store_one {o : Oper} {a : Act} {w : World} {K : Act → World → Prop} {Q : Exit → Act → World → Prop} (t : TypeId) (x y : Operand) (ho : o.op = .store t x y) (hs : (Try.prog.info? t).map (·.size) = some 1) (g off : Nat) (v : Value) (hx : a.eval x = .pointer (some ⟨g, off, none⟩)) (hy : a.eval y = v) (h1 : v.oneCell' = true) (hc : (w.cell? ⟨g, off, none⟩).isSome = true) (hz : w.frozen? ⟨g, off, none⟩ = false)
    (h : K (a.put o.dst undef) (w.setCell ⟨g, off, none⟩ v)) : Oper.wp Try.prog o a w K Q := by
  obtain ⟨u, hu⟩ := Option.isSome_iff_exists.1 hc
  have hcs : v.cells = #[v] := by cases v <;> first | rfl | (cases h1)
  have hst : (store ⟨g, off, none⟩ v).run Try.prog w = .ok () (w.setCell ⟨g, off, none⟩ v) := by
    rw [run_store Try.prog w _ v _ h1, hu]
    simp [hz]
  cases hq : Try.prog.info? t with
  | none => simp [hq] at hs
  | some i =>
    have hi : i.size = 1 := by simpa [hq] using hs
    have hsv : (storeVar t ⟨g, off, none⟩ v).run Try.prog w = .ok () (w.setCell ⟨g, off, none⟩ v) := by
      simp [storeVar, sizeOf, typeInfo, hq, hi, hcs, storeCells, Addr.add_mid, hst]
    unfold Oper.wp execOp
    simp only [ho, hx, hy, Instr.storeAt, Instr.sureAddr, Sem.run_bind, Sem.run_pure, Result.andThen_ok, hsv]
    exact h
theorem info99 : (Try.prog.info? 112).map (fun i => (i.zero, i.size, i.bytes)) = some (some (.agg Try.zeroCells112), 65, 72) := by kernel_rfl
theorem run_build_w (p : Nat × ByteArray) (hz : p.2.size = 64) (w : World) : (Instr.buildSlice 99 1 #[(0, .agg (wc p).toArray)]).run Try.prog w = .ok (.slice (some ⟨w.heap.size, 0, none⟩) 1 1) (w.alloc (.cells (wc p).toArray 112)) := by
  have hl : (wc p).toArray.size = 65 := by rw [List.size_toArray, wc_len, hz]
  obtain ⟨i, hi, hzz⟩ := Option.map_eq_some_iff.1 info99
  simp only [Prod.mk.injEq] at hzz
  obtain ⟨hz0, hs, hby⟩ := hzz
  refine run_buildSlice (P := Try.prog) w 99 112 1 _ (wc p).toArray i _ Try.underlying99 hi hz0 (by rw [hs]; omega) (by rw [hs]; omega) ?_
  rw [hs]
  have := Go.Great.fill_whole (s := 65) (by omega) [.agg (wc p).toArray] ((Array.range (1 * 65)).map ((Value.agg Try.zeroCells112).cells[· % (Value.agg Try.zeroCells112).cells.size]!)) (fun v hv => by rw [List.mem_singleton.1 hv]; exact hl) (by simp)
  simpa [Value.cells] using this
theorem wp_buildW {o : Oper} {a : Act} {w : World} {K : Act → World → Prop} {Q : Exit → Act → World → Prop} (x : Operand) (ho : o.op = .buildSlice 99 1 #[(0, x)]) (p : Nat × ByteArray) (hz : p.2.size = 64) (hx : a.eval x = .agg (wc p).toArray)
    (h : ∀ N w', Kp w w' → w'.rangeAt N 0 (wc p) → w.heap.size ≤ N → K (a.put o.dst (.slice (some ⟨N, 0, none⟩) 1 1)) w') : Oper.wp Try.prog o a w K Q := by
  have hr := run_build_w p hz w
  have hK := h w.heap.size (w.alloc (.cells (wc p).toArray 112)) ((Kp.refl w).alloc _) (fun j v hv => by rw [World.cell?_alloc_at _ _ _ _ rfl, Nat.zero_add]; simpa using hv) (Nat.le_refl _)
  unfold Oper.wp execOp
  simp only [ho]
  simp [hx, hr]
  exact hK
theorem RowIn.one {w : World} {v : Value} {r : List (Nat × ByteArray)} (h : RowIn w v r) : v.oneCell' = true := by
  obtain ⟨a, cap, rfl, _⟩ := h.len
  rfl
theorem run_append_w {w : World} (ty : TypeId) (v : Value) (r : List (Nat × ByteArray)) (hr : RowIn w v r) (k c : Nat) (p : Nat × ByteArray) (hz : p.2.size = 64) (hk : w.rangeAt k 0 (wc p)) (hb : r.length < 1000000) :
    ∃ v' w', (Builtin.append_ #[99, 99] ty #[v, .slice (some ⟨k, 0, none⟩) 1 c]).run Try.prog w = .ok v' w' ∧ RowIn w' v' (r ++ [p]) ∧ w.grownBy w' v.ownBlock ∧ (v'.ownBlock = v.ownBlock ∨ v'.ownBlock = some w.heap.size) := by
  obtain ⟨i, hi, hzz⟩ := Option.map_eq_some_iff.1 info99
  simp only [Prod.mk.injEq] at hzz
  obtain ⟨hz0, hs, hby⟩ := hzz
  obtain ⟨v', w', h1, h2, h3, _, h4⟩ := run_append_own_at (P := Try.prog) w 0 99 ty 112 i _ 65 72 Try.underlying99 hi hz0 hs hby zero_len (by omega) v r.length (wcs r) hr.o ⟨k, 0, none⟩ 1 c (wc p) (by rw [wc_len, hz]) (fun j u hu => by rw [Addr.add_mid]; exact hk j u hu) (wc_one p) (by unfold maxLen; omega) (by omega) (Nat.zero_le _)
  refine ⟨v', w', h1, ⟨?_, fun q hq => ?_⟩, h3, h4⟩
  · rw [List.length_append, wcs_app]
    simpa [wcs] using h2
  · rcases List.mem_append.1 hq with h | h
    · exact hr.z q h
    · rw [List.mem_singleton.1 h]; exact hz
theorem wp_append_w {o : Oper} {a : Act} {w : World} {K : Act → World → Prop} {Q : Exit → Act → World → Prop} (s x : Operand)
    (ho : o.op = .call { callee := .builtin .append, args := #[s, x], argTypes := #[99, 99] }) (v : Value) (r : List (Nat × ByteArray)) (k c : Nat) (p : Nat × ByteArray) (hs : a.eval s = v) (hx : a.eval x = .slice (some ⟨k, 0, none⟩) 1 c) (hr : RowIn w v r) (hz : p.2.size = 64) (hk : w.rangeAt k 0 (wc p)) (hb : r.length < 1000000)
    (cont : ∀ v' w', RowIn w' v' (r ++ [p]) → w.grownBy w' v.ownBlock → (v'.ownBlock = v.ownBlock ∨ v'.ownBlock = some w.heap.size) → K (a.put o.dst v') w') :
    Oper.wp Try.prog o a w K Q := by
  obtain ⟨v', w', hrun, h1, h2, h3⟩ := run_append_w o.type v r hr k c p hz hk hb
  unfold Oper.wp
  simp [execOp, ho, resolve, invoke, builtin, hs, hx, hrun, Result.andThen]
  exact cont v' w' h1 h2 h3
theorem grown_sp {w w' : World} {v : Value} (h : w.grownBy w' v.ownBlock) : Sp v.ownBlock.toList w w' := ⟨h.os, h.tape, h.output, h.size, fun k hk hn => h.block k hk (fun e => hn (by rw [← e]; simp))⟩
theorem Vr.fill {w : World} {k i : Nat} {z : ByteArray} (h : Vr w k (i, z)) (s : ByteArray) (hs : s.size = 64) : Vr (w.setCells k 1 (byteCells s)) k (i, s) := by
  have ht : w.there k 1 64 := fun j hj => by
    have := h.t (1 + j) (by omega)
    rwa [Nat.zero_add] at this
  have hr := World.rangeAt_setCells_same w k 1 (byteCells s) (by rw [bc_len, hs]; exact ht)
  refine ⟨fun j v hv => ?_, World.there_setCells h.t k 1 _, hs, Nat.lt_of_lt_of_le h.hk (Sp.setCells (T := [k]) k (by simp) _ 1 w (Sp.refl _ _)).size⟩
  cases j with
  | zero =>
    have e : v = .int .i64 (i : Int) := by simpa [wc] using hv.symm
    rw [e, World.cell?_setCells_out k (byteCells s) 1 w ⟨k, 0 + 0, none⟩ (fun _ _ => .inl (by show 0 + 0 < 1; omega))]
    exact h.at
  | succ j =>
    have := hr j v (by simpa [wc] using hv)
    rw [show 0 + (j + 1) = 1 + j by omega]
    exact this
theorem Vr.there1 {w : World} {k : Nat} {p : Nat × ByteArray} (h : Vr w k p) : w.there k 1 64 := fun j hj => by
  have := h.t (1 + j) (by omega)
  rwa [Nat.zero_add] at this
theorem built99 (i : Nat) : Try.prog.built 112 [(0, .int .i64 (i : Int))] = some (wc (i, z64)).toArray := by kernel_rfl

end Go.Proofs.Ytmklkdopmemfaaa
