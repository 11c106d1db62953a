/-
  Contracts of Flush and Replace. Conditions: that the member lies in memory, its lock free.
-/
import Derived.Test.YtmklkdopmemfaaaMmSettle
import Derived.Test.YtmklkdopmemfaaaMmNew
namespace Go.Proofs.Ytmklkdopmemfaaa
open Go.RowKit Plain
set_option linter.unusedVariables false

theorem Sp.bbl {w w' : World} {b bn bl : Nat} {rv : Value} (h : Sp [b, bl] w w') : Sp (blk b bn bl rv) w w' := h.mono (fun t ht => by
  simp at ht
  rcases ht with rfl | rfl
  · exact b_mem _ _ _ _
  · exact bl_mem _ _ _ _)
set_option maxRecDepth 100000 in
theorem flush_any {w : World} {b bn bl : Nat} {rv : Value} {S : MS} (h : MemIn w b bn bl rv S 0 0) : Calls Try.prog 47 #[.pointer (some ⟨b, 0, none⟩)] w fun e w' => e = .returned (.int .i64 (flE S)) ∧ Md w w' b bn bl rv (fl S) := by
  cases hd : S.dead with
  | true =>
    rw [show flE S = 22 from if_pos hd, show fl S = S from if_pos hd]
    go_enter_defers Try.func47, Try.ntmps47
    go_wp2_with fail
    refine (lock_any h).mono ?_
    rintro e w1 ⟨rfl, h1, k1⟩
    have cD := h1.cD
    rw [hd] at cD
    go_wp2_with fail
    refine leaves_cons (f := 60) (args := #[.pointer (some ⟨b, 4, none⟩)]) (by simp) (by simp [go_sem]) ?_
    refine (unlock_any h1 .returning).mono ?_
    rintro e u' w2 ⟨rfl, rfl, h2, k2⟩
    exact ⟨_, results_tmp rfl _ _ _, rfl, Md.same h2 (k1.trans k2).b⟩
  | false =>
    rw [show flE S = 0 from if_neg (by simp [hd]), show fl S = ⟨S.now, pl S.las S.row, [], S.dead, up S.c 2⟩ from if_neg (by simp [hd])]
    go_enter_defers Try.func47, Try.ntmps47
    go_wp2_with fail
    refine (lock_any h).mono ?_
    rintro e w1 ⟨rfl, h1, k1⟩
    have cD := h1.cD
    rw [hd] at cD
    go_wp2_with fail
    refine (settle_any h1).mono ?_
    rintro e w2 ⟨rfl, h2, k2⟩
    go_wp2_with fail
    refine (count_any h2 2 (by omega)).mono ?_
    rintro e w3 ⟨⟨v, rfl⟩, h3, k3⟩
    go_wp2_with fail
    refine leaves_cons (f := 60) (args := #[.pointer (some ⟨b, 4, none⟩)]) (by simp) (by simp [go_sem]) ?_
    refine (unlock_any h3 .returning).mono ?_
    rintro e u' w4 ⟨rfl, rfl, h4, k4⟩
    exact ⟨_, results_tmp rfl _ _ _, rfl, _, h4, ((k1.b.trans k2.bbl).trans k3.b).trans k4.b, Nw.none _ _ _ _ _⟩

/-! ### clear -/
theorem run_clear (w : World) (ty : TypeId) (g n c : Nat) (hn : 1 ≤ n) (ht : w.there g 0 (n * 64)) :
    (Builtin.clear_ #[98] ty #[.slice (some ⟨g, 0, none⟩) n c]).run Try.prog w = .ok (.tuple #[]) (w.setCells g 0 (scs (List.replicate n z64))) := by
  have hl := scs_len _ (rep_all n)
  rw [List.length_replicate] at hl
  have hst := run_storeCells_cells (P := Try.prog) g 0 (scs (List.replicate n z64)) 0 w (fun j hj => by rw [hl] at hj; simpa using (ht j hj).1) (fun j hj => by rw [hl] at hj; simpa using (ht j hj).2) (scs_one _)
  have hz : ∀ w, (zeroValue 104).run Try.prog w = .ok (.agg (List.replicate 64 z0).toArray) w := fun w => Try.zeroValue104 w
  have hm : (Builtin.zeroCells (List.replicate 64 z0).toArray n).toList = scs (List.replicate n z64) := by
    have := made_zero n
    unfold madeCells at this
    unfold Builtin.zeroCells
    rw [show (List.replicate 64 z0).toArray.size = 64 from rfl] at this ⊢
    rw [this]
  obtain ⟨n, rfl⟩ : ∃ m, n = m + 1 := ⟨n - 1, by omega⟩
  simp only [Nat.add_zero] at hst
  generalize hZ : scs (List.replicate (n + 1) z64) = ZL at *
  generalize hY : (List.replicate 64 z0).toArray = Y at *
  simp [Builtin.clear_, run_underlying Try.underlying98, hz, Value.cells, hm, hst]
theorem wpList_clear_run {w : World} {ops : Array Oper} {rest : List Oper} {o : Oper} {a : Act} {Q : Exit → Act → World → Prop} (hgd : o.guard = none) (d : Operand) (dT : TypeId)
    (ho : o.op = .call { callee := .builtin .clear, args := #[d], argTypes := #[dT] }) (dv r : Value) (w' : World) (hd : a.eval d = dv)
    (hrun : (Builtin.clear_ #[dT] o.type #[dv]).run Try.prog w = .ok r w') (h : wpList Try.prog ops Q rest (a.put o.dst r) w') : wpList Try.prog ops Q (o :: rest) a w := by
  refine wpList_plain hgd fun K hK' => ?_
  unfold Oper.wp
  simp [execOp, ho, resolve, invoke, builtin, hd, hrun, Result.andThen]
  exact hK' _ _ h
set_option maxRecDepth 100000 in
theorem replace_any {w : World} {b bn bl : Nat} {rv : Value} {S : MS} (h : MemIn w b bn bl rv S 0 0) : Calls Try.prog 36 #[.pointer (some ⟨b, 0, none⟩)] w fun e w' => e = .returned (.tuple #[]) ∧ Md w w' b bn bl rv (rp S) := by
  go_enter_defers Try.func36, Try.ntmps36
  go_wp2_with fail
  refine (lock_any h).mono ?_
  rintro e w1 ⟨rfl, h1, k1⟩
  have cD := h1.cD
  have cR := h1.cR
  have z13 := h1.z 13
  have z12 := h1.z 12
  have cN := h1.cN
  have cL := h1.cL
  have h3 := (h1.death false).row (Sp.refl _ _) (.slice none 0 0) [] (RowIn.nil _) (fun g hg => by cases hg) (fun p hp => by cases hp)
  have hn : S.now.length = S.las.length := h.fine.nn
  have hn1 := h.fine.n1
  obtain ⟨W, hW⟩ : ∃ W, W = (w1.setCell ⟨b, 13, none⟩ (.bool false)).setCell ⟨b, 12, none⟩ (.slice none 0 0) := ⟨_, rfl⟩
  rw [← hW] at h3
  have kW : Sp [b] w W := by rw [hW]; exact (k1.set b 13 (by simp) _).set b 12 (by simp) _
  have HW : Hid (W = (w1.setCell ⟨b, 13, none⟩ (.bool false)).setCell ⟨b, 12, none⟩ (.slice none 0 0)) := hW
  clear hW
  have r1 := run_clear W 0 bn S.las.length S.las.length hn1 (by have := h3.sn.t; simp only [hn] at this; exact this)
  have s1 : Sp [bn] W (W.setCells bn 0 (scs (List.replicate S.las.length z64))) := Sp.setCells bn (by simp) _ _ _ (Sp.refl _ _)
  have h4 := h3.nows s1 (List.replicate S.las.length z64) (h3.sn.over _ (by simp [hn]) (rep_all _)) (by simp)
  obtain ⟨W1, hW1⟩ : ∃ W1, W1 = W.setCells bn 0 (scs (List.replicate S.las.length z64)) := ⟨_, rfl⟩
  rw [← hW1] at r1 s1 h4
  rw [HW.out] at r1
  clear hW1
  have r2 := run_clear W1 0 bl S.las.length S.las.length hn1 h4.sl.t
  have s2 : Sp [bl] W1 (W1.setCells bl 0 (scs (List.replicate S.las.length z64))) := Sp.setCells bl (by simp) _ _ _ (Sp.refl _ _)
  have h5 := h4.lasts s2 (List.replicate S.las.length z64) (h4.sl.over _ (by simp) (rep_all _)) (by simp)
  obtain ⟨W2, hW2⟩ : ∃ W2, W2 = W1.setCells bl 0 (scs (List.replicate S.las.length z64)) := ⟨_, rfl⟩
  rw [← hW2] at r2 s2 h5
  clear hW2
  have cL2 := h4.cL
  simp only at cL2
  have hcnt := count_any h5 3 (by omega)
  have R1 := hid r1
  have R2 := hid r2
  clear r1 r2 h1 h3 HW
  go_wp2_with (first | refine wpList_clear_run rfl _ 98 rfl _ _ W1 rfl R1.out ?_ | refine wpList_clear_run rfl _ 98 rfl _ _ W2 rfl R2.out ?_)
  refine hcnt.mono ?_
  rintro e w3 ⟨⟨v, rfl⟩, h6, k6⟩
  go_wp2_with fail
  refine leaves_cons (f := 60) (args := #[.pointer (some ⟨b, 4, none⟩)]) (by simp) (by simp [go_sem]) ?_
  refine (unlock_any h6 .returning).mono ?_
  rintro e u' w4 ⟨rfl, rfl, h7, k7⟩
  exact ⟨_, results_none rfl _ _ _, rfl, _, h7, (((kW.b.trans s1.bn).trans s2.bl).trans k6.b).trans k7.b, Nw.none _ _ _ _ _⟩

end Go.Proofs.Ytmklkdopmemfaaa
