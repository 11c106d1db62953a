/-
  A contract of Write. Conditions: that the member lies in memory, its lock free; few writes wait.
-/
import Derived.Test.YtmklkdopmemfaaaMmStep
namespace Go.Proofs.Ytmklkdopmemfaaa
open Go.RowKit Plain
set_option linter.unusedVariables false

/-! ### m.row = append(m.row, w): a statement that draws its order -/
def rop0 : Oper := { dst := some 33, op := Op.move (Operand.tmp 0), type := 44, pos := "member.go:82", after := #[], guard := none }
def rop1 : Oper := { dst := some 34, op := Op.move (Operand.tmp 0), type := 44, pos := "member.go:82", after := #[], guard := none }
def rop2 : Oper := { dst := some 35, op := Op.nilCheck (Operand.tmp 34), type := 0, pos := "member.go:82", after := #[{ on := 1, ground := Ground.data }], guard := none }
def rop3 : Oper := { dst := some 36, op := Op.fieldAddr 101 (Operand.tmp 35) 4, type := 0, pos := "member.go:82", after := #[{ on := 2, ground := Ground.data }], guard := none }
def rop4 : Oper := { dst := some 37, op := Op.load 99 (Operand.tmp 36), type := 99, pos := "member.go:82", after := #[{ on := 3, ground := Ground.data }], guard := none }
def rop5 : Oper := { dst := some 38, op := Op.load 112 (Operand.tmp 8), type := 112, pos := "member.go:82", after := #[], guard := none }
def rop6 : Oper := { dst := some 39, op := Op.buildSlice 99 1 #[(0, Operand.tmp 38)], type := 99, pos := "member.go:82", after := #[{ on := 5, ground := Ground.data }], guard := none }
def rop7 : Oper := { dst := some 40, op := Op.call { callee := Callee.builtin Builtin.append, args := #[Operand.tmp 37, Operand.tmp 39], argTypes := #[99, 99] }, type := 99, pos := "member.go:82", after := #[{ on := 4, ground := Ground.data }, { on := 6, ground := Ground.data }], guard := none }
def rop8 : Oper := { dst := some 41, op := Op.nilCheck (Operand.tmp 33), type := 0, pos := "member.go:82", after := #[{ on := 0, ground := Ground.data }, { on := 0, ground := Ground.phase }, { on := 1, ground := Ground.phase }, { on := 2, ground := Ground.phase }, { on := 3, ground := Ground.phase }, { on := 4, ground := Ground.phase }, { on := 5, ground := Ground.phase }, { on := 6, ground := Ground.phase }, { on := 7, ground := Ground.phase }], guard := none }
def rop9 : Oper := { dst := some 42, op := Op.fieldAddr 101 (Operand.tmp 41) 4, type := 0, pos := "member.go:82", after := #[{ on := 8, ground := Ground.data }, { on := 0, ground := Ground.phase }, { on := 1, ground := Ground.phase }, { on := 2, ground := Ground.phase }, { on := 3, ground := Ground.phase }, { on := 4, ground := Ground.phase }, { on := 5, ground := Ground.phase }, { on := 6, ground := Ground.phase }, { on := 7, ground := Ground.phase }], guard := none }
def rop10 : Oper := { dst := none, op := Op.store 99 (Operand.tmp 42) (Operand.tmp 40), type := 0, pos := "member.go:82", after := #[{ on := 9, ground := Ground.data }, { on := 7, ground := Ground.data }, { on := 7, ground := Ground.chain }, { on := 0, ground := Ground.phase }, { on := 1, ground := Ground.phase }, { on := 2, ground := Ground.phase }, { on := 3, ground := Ground.phase }, { on := 4, ground := Ground.phase }, { on := 5, ground := Ground.phase }, { on := 6, ground := Ground.phase }, { on := 7, ground := Ground.phase }], guard := none }
def rops : Array Oper := #[rop0, rop1, rop2, rop3, rop4, rop5, rop6, rop7, rop8, rop9, rop10]

theorem ev_same (a : Act) (d : Nat) (v : Value) (h : d < a.tmps.size) : (a.put (some d) v).eval (.tmp d) = v := by
  simp [Act.eval, Act.put, h]
theorem ev_ne (a : Act) (d t : Nat) (v : Value) (h : d ≠ t) : (a.put (some d) v).eval (.tmp t) = a.eval (.tmp t) := by
  simp [Act.eval, Act.put, h]
theorem sz_put (a : Act) (d : Nat) (v : Value) : (a.put (some d) v).tmps.size = a.tmps.size := by simp [Act.put]
theorem put_comm (a : Act) (d t : Nat) (v u : Value) (h : d ≠ t) : (a.put (some d) v).put (some t) u = (a.put (some t) u).put (some d) v := by
  simp only [Act.put]
  rw [Array.setIfInBounds_comm _ _ h]
theorem y_move {ops : Array Oper} {S : World → Prop} {o : Oper} {a : Act} (hg : o.guard = none) (x : Operand) (ho : o.op = .move x) (v : Value) (hx : a.eval x = v) : YieldsIf Try.prog ops S o v a :=
  .inl ⟨by simp [Region.wanted, hg], fun w _ => by unfold execOp; simp [ho, hx]⟩
theorem y_nil {ops : Array Oper} {S : World → Prop} {o : Oper} {a : Act} (hg : o.guard = none) (x : Operand) (ho : o.op = .nilCheck x) (p : Addr) (hx : a.eval x = .pointer (some p)) : YieldsIf Try.prog ops S o (.pointer (some p)) a :=
  .inl ⟨by simp [Region.wanted, hg], fun w _ => by unfold execOp; simp only [ho, hx]; rfl⟩
theorem y_row {ops : Array Oper} {S : World → Prop} {o : Oper} {a : Act} (hg : o.guard = none) (x : Operand) (ho : o.op = .fieldAddr 101 x 4) (b : Nat) (hx : a.eval x = .pointer (some ⟨b, 0, none⟩)) : YieldsIf Try.prog ops S o (.pointer (some ⟨b, 12, none⟩)) a :=
  .inl ⟨by simp [Region.wanted, hg], fun w _ => by unfold execOp; simp only [ho, hx]; go_simp⟩
set_option maxRecDepth 100000 in
set_option maxHeartbeats 1000000 in
theorem row_region {b bn bl K i : Nat} {s : ByteArray} {rv : Value} {S : MS} {x y : Int} {w4 : World} (M4 : MemIn w4 b bn bl rv S x y) (V4 : Vr w4 K (i, s)) (hs : s.size = 64) (hrl : S.row.length < 1000000) (hKr : K ∉ rv.ownBlock.toList) (hKb : K ≠ b)
    (A : Act) (sz : A.tmps.size = 57) (e0 : A.eval (.tmp 0) = .pointer (some ⟨b, 0, none⟩)) (e8 : A.eval (.tmp 8) = .pointer (some ⟨K, 0, none⟩)) (Q : Exit → Act → World → Prop)
    (hfin : ∀ N rv' w6, RowIn w6 rv' (S.row ++ [(i, s)]) → Sp rv.ownBlock.toList w4 w6 → (∀ g, rv'.ownBlock = some g → rv.ownBlock = some g ∨ w4.heap.size ≤ g) →
      Q .normal ((((((((((A.put (some 33) (.pointer (some ⟨b, 0, none⟩))).put (some 34) (.pointer (some ⟨b, 0, none⟩))).put (some 35) (.pointer (some ⟨b, 0, none⟩))).put (some 36) (.pointer (some ⟨b, 12, none⟩))).put (some 38) (.agg (wc (i, s)).toArray)).put (some 37) rv).put (some 39) (.slice (some ⟨N, 0, none⟩) 1 1)).put (some 40) rv').put (some 41) (.pointer (some ⟨b, 0, none⟩))).put (some 42) (.pointer (some ⟨b, 12, none⟩))) (w6.setCell ⟨b, 12, none⟩ rv')) :
    (Code.region 12 rops true).wp Try.prog Q A w4 := by
  have cR := M4.cR
  have hra := V4.r
  have hKb2 : K ∉ [b] := by simpa using hKb
  have hbr : b ∉ rv.ownBlock.toList := fun hm => (M4.n4 b (by simpa using hm)).1 rfl
  refine wp_region_noPanic ?_
  refine wp_region_held (S := fun W => W.rangeAt K 0 (wc (i, s))) (by kernel_rfl) ?_
  obtain ⟨W, hW⟩ : ∃ W, W = w4.drew := ⟨_, rfl⟩
  change wpAnyH _ _ _ _ _ 11 (Array.replicate 11 false) _ (World.drew _)
  rw [← hW]
  have kW : Kp w4 W := by rw [hW]; exact (Kp.refl w4).drew
  clear hW
  have sA := sz
  have e0A := e0
  have e8A := e8
  refine wpAnyH_take (i := 0) (oi := rop0) (v := (.pointer (some ⟨b, 0, none⟩))) (by rfl) (by kernel_rfl) (by kernel_rfl) (by kernel_rfl) (fun _ _ _ h => h) (y_move rfl _ rfl _ e0A) ((kW.sp []).range hra (by simp)) ?_
  show wpAnyH _ _ _ _ _ _ _ (A.put (some 33) (.pointer (some ⟨b, 0, none⟩))) _
  obtain ⟨A1, hA1⟩ : ∃ A1, A1 = A.put (some 33) (.pointer (some ⟨b, 0, none⟩)) := ⟨_, rfl⟩
  have sA1 : A1.tmps.size = 57 := by rw [hA1, sz_put]; exact sA
  have e33A1 : A1.eval (.tmp 33) = (.pointer (some ⟨b, 0, none⟩)) := by rw [hA1]; exact ev_same _ _ _ (by rw [sA]; omega)
  have e0A1 : A1.eval (.tmp 0) = (.pointer (some ⟨b, 0, none⟩)) := by rw [hA1, ev_ne _ _ _ _ (by omega)]; exact e0A
  have e8A1 : A1.eval (.tmp 8) = (.pointer (some ⟨K, 0, none⟩)) := by rw [hA1, ev_ne _ _ _ _ (by omega)]; exact e8A
  rw [← hA1]
  refine wpAnyH_take (i := 1) (oi := rop1) (v := (.pointer (some ⟨b, 0, none⟩))) (by rfl) (by kernel_rfl) (by kernel_rfl) (by kernel_rfl) (fun _ _ _ h => h) (y_move rfl _ rfl _ e0A1) ((kW.sp []).range hra (by simp)) ?_
  show wpAnyH _ _ _ _ _ _ _ (A1.put (some 34) (.pointer (some ⟨b, 0, none⟩))) _
  obtain ⟨A2, hA2⟩ : ∃ A2, A2 = A1.put (some 34) (.pointer (some ⟨b, 0, none⟩)) := ⟨_, rfl⟩
  have sA2 : A2.tmps.size = 57 := by rw [hA2, sz_put]; exact sA1
  have e34A2 : A2.eval (.tmp 34) = (.pointer (some ⟨b, 0, none⟩)) := by rw [hA2]; exact ev_same _ _ _ (by rw [sA1]; omega)
  have e33A2 : A2.eval (.tmp 33) = (.pointer (some ⟨b, 0, none⟩)) := by rw [hA2, ev_ne _ _ _ _ (by omega)]; exact e33A1
  have e8A2 : A2.eval (.tmp 8) = (.pointer (some ⟨K, 0, none⟩)) := by rw [hA2, ev_ne _ _ _ _ (by omega)]; exact e8A1
  rw [← hA2]
  refine wpAnyH_take (i := 2) (oi := rop2) (v := (.pointer (some ⟨b, 0, none⟩))) (by rfl) (by kernel_rfl) (by kernel_rfl) (by kernel_rfl) (fun _ _ _ h => h) (y_nil rfl _ rfl _ e34A2) ((kW.sp []).range hra (by simp)) ?_
  show wpAnyH _ _ _ _ _ _ _ (A2.put (some 35) (.pointer (some ⟨b, 0, none⟩))) _
  obtain ⟨A3, hA3⟩ : ∃ A3, A3 = A2.put (some 35) (.pointer (some ⟨b, 0, none⟩)) := ⟨_, rfl⟩
  have sA3 : A3.tmps.size = 57 := by rw [hA3, sz_put]; exact sA2
  have e35A3 : A3.eval (.tmp 35) = (.pointer (some ⟨b, 0, none⟩)) := by rw [hA3]; exact ev_same _ _ _ (by rw [sA2]; omega)
  have e33A3 : A3.eval (.tmp 33) = (.pointer (some ⟨b, 0, none⟩)) := by rw [hA3, ev_ne _ _ _ _ (by omega)]; exact e33A2
  have e8A3 : A3.eval (.tmp 8) = (.pointer (some ⟨K, 0, none⟩)) := by rw [hA3, ev_ne _ _ _ _ (by omega)]; exact e8A2
  rw [← hA3]
  refine wpAnyH_take (i := 3) (oi := rop3) (v := (.pointer (some ⟨b, 12, none⟩))) (by rfl) (by kernel_rfl) (by kernel_rfl) (by kernel_rfl) (fun _ _ _ h => h) (y_row rfl _ rfl b e35A3) ((kW.sp []).range hra (by simp)) ?_
  show wpAnyH _ _ _ _ _ _ _ (A3.put (some 36) (.pointer (some ⟨b, 12, none⟩))) _
  obtain ⟨A4, hA4⟩ : ∃ A4, A4 = A3.put (some 36) (.pointer (some ⟨b, 12, none⟩)) := ⟨_, rfl⟩
  have sA4 : A4.tmps.size = 57 := by rw [hA4, sz_put]; exact sA3
  have e36A4 : A4.eval (.tmp 36) = (.pointer (some ⟨b, 12, none⟩)) := by rw [hA4]; exact ev_same _ _ _ (by rw [sA3]; omega)
  have e33A4 : A4.eval (.tmp 33) = (.pointer (some ⟨b, 0, none⟩)) := by rw [hA4, ev_ne _ _ _ _ (by omega)]; exact e33A3
  have e8A4 : A4.eval (.tmp 8) = (.pointer (some ⟨K, 0, none⟩)) := by rw [hA4, ev_ne _ _ _ _ (by omega)]; exact e8A3
  rw [← hA4]
  refine wpAnyH_take (i := 5) (oi := rop5) (v := (.agg (wc (i, s)).toArray)) (by rfl) (by kernel_rfl) (by kernel_rfl) (by kernel_rfl) (fun _ _ _ h => h) (yieldsIf_load_mid (by rfl) 112 _ rfl K 0 e8A4 (wc (i, s)) _ (fun _ h => h) Try.underlying112 rfl (by rw [wc_len, hs]; kernel_rfl)) ((kW.sp []).range hra (by simp)) ?_
  show wpAnyH _ _ _ _ _ _ _ (A4.put (some 38) (.agg (wc (i, s)).toArray)) _
  obtain ⟨A5, hA5⟩ : ∃ A5, A5 = A4.put (some 38) (.agg (wc (i, s)).toArray) := ⟨_, rfl⟩
  have sA5 : A5.tmps.size = 57 := by rw [hA5, sz_put]; exact sA4
  have e38A5 : A5.eval (.tmp 38) = (.agg (wc (i, s)).toArray) := by rw [hA5]; exact ev_same _ _ _ (by rw [sA4]; omega)
  have e33A5 : A5.eval (.tmp 33) = (.pointer (some ⟨b, 0, none⟩)) := by rw [hA5, ev_ne _ _ _ _ (by omega)]; exact e33A4
  have e36A5 : A5.eval (.tmp 36) = (.pointer (some ⟨b, 12, none⟩)) := by rw [hA5, ev_ne _ _ _ _ (by omega)]; exact e36A4
  rw [← hA5]
  refine held_two 4 6 rop4 rop6 (by kernel_rfl) (by rfl) (by rfl) rfl rfl ?_ ?_
  · intro K' hK
    refine wp_load_one 99 _ rfl Try.isAgg99 b 12 rv e36A5 (kW.held cR) ?_
    refine hK _ _ ?_ ?_
    · exact ((kW.sp []).range hra (by simp))
    clear hK K'
    show wpAnyH _ _ _ _ _ _ _ (A5.put (some 37) rv) _
    obtain ⟨A6, hA6⟩ : ∃ A6, A6 = A5.put (some 37) rv := ⟨_, rfl⟩
    have sA6 : A6.tmps.size = 57 := by rw [hA6, sz_put]; exact sA5
    have e37A6 : A6.eval (.tmp 37) = rv := by rw [hA6]; exact ev_same _ _ _ (by rw [sA5]; omega)
    have e33A6 : A6.eval (.tmp 33) = (.pointer (some ⟨b, 0, none⟩)) := by rw [hA6, ev_ne _ _ _ _ (by omega)]; exact e33A5
    have e38A6 : A6.eval (.tmp 38) = (.agg (wc (i, s)).toArray) := by rw [hA6, ev_ne _ _ _ _ (by omega)]; exact e38A5
    rw [← hA6]
    refine held_one 6 rop6 (by kernel_rfl) (by rfl) rfl ?_
    intro K' hK
    refine wp_buildW _ rfl (i, s) hs e38A6 ?_
    intro N W2 kN hN hkN
    have kW2 : Kp w4 W2 := kW.trans kN
    refine hK _ _ ?_ ?_
    · exact ((kW2.sp []).range hra (by simp))
    clear hK K'
    show wpAnyH _ _ _ _ _ _ _ (A6.put (some 39) (.slice (some ⟨N, 0, none⟩) 1 1)) _
    obtain ⟨A7, hA7⟩ : ∃ A7, A7 = A6.put (some 39) (.slice (some ⟨N, 0, none⟩) 1 1) := ⟨_, rfl⟩
    have sA7 : A7.tmps.size = 57 := by rw [hA7, sz_put]; exact sA6
    have e39A7 : A7.eval (.tmp 39) = (.slice (some ⟨N, 0, none⟩) 1 1) := by rw [hA7]; exact ev_same _ _ _ (by rw [sA6]; omega)
    have e33A7 : A7.eval (.tmp 33) = (.pointer (some ⟨b, 0, none⟩)) := by rw [hA7, ev_ne _ _ _ _ (by omega)]; exact e33A6
    have e37A7 : A7.eval (.tmp 37) = rv := by rw [hA7, ev_ne _ _ _ _ (by omega)]; exact e37A6
    rw [← hA7]
    refine held_one 7 rop7 (by kernel_rfl) (by rfl) rfl ?_
    intro K' hK
    refine wp_append_w _ _ rfl rv S.row N 1 (i, s) e37A7 e39A7 (M4.rw.sp (kW2.sp []) (fun _ _ => by simp)) hs hN hrl ?_
    intro rv' w6 hr6 hg6 ho6
    refine hK _ _ ?_ ?_
    · exact (grown_sp hg6).range ((kW2.sp []).range hra (by simp)) hKr
    clear hK K'
    have k6 : Sp rv.ownBlock.toList w4 w6 := (kW2.sp _).trans (grown_sp hg6)
    have ho7 : ∀ g, rv'.ownBlock = some g → rv.ownBlock = some g ∨ w4.heap.size ≤ g := fun g hg => by
      rcases ho6 with h | h
      · left; rw [← h]; exact hg
      · right; rw [h] at hg; cases hg; exact kW2.size
    show wpAnyH _ _ _ _ _ _ _ (A7.put (some 40) rv') _
    obtain ⟨A8, hA8⟩ : ∃ A8, A8 = A7.put (some 40) rv' := ⟨_, rfl⟩
    have sA8 : A8.tmps.size = 57 := by rw [hA8, sz_put]; exact sA7
    have e40A8 : A8.eval (.tmp 40) = rv' := by rw [hA8]; exact ev_same _ _ _ (by rw [sA7]; omega)
    have e33A8 : A8.eval (.tmp 33) = (.pointer (some ⟨b, 0, none⟩)) := by rw [hA8, ev_ne _ _ _ _ (by omega)]; exact e33A7
    rw [← hA8]
    refine wpAnyH_take (i := 8) (oi := rop8) (v := (.pointer (some ⟨b, 0, none⟩))) (by rfl) (by kernel_rfl) (by kernel_rfl) (by kernel_rfl) (fun _ _ _ h => h) (y_nil rfl _ rfl _ e33A8) (k6.range hra hKr) ?_
    show wpAnyH _ _ _ _ _ _ _ (A8.put (some 41) (.pointer (some ⟨b, 0, none⟩))) _
    obtain ⟨A9, hA9⟩ : ∃ A9, A9 = A8.put (some 41) (.pointer (some ⟨b, 0, none⟩)) := ⟨_, rfl⟩
    have sA9 : A9.tmps.size = 57 := by rw [hA9, sz_put]; exact sA8
    have e41A9 : A9.eval (.tmp 41) = (.pointer (some ⟨b, 0, none⟩)) := by rw [hA9]; exact ev_same _ _ _ (by rw [sA8]; omega)
    have e40A9 : A9.eval (.tmp 40) = rv' := by rw [hA9, ev_ne _ _ _ _ (by omega)]; exact e40A8
    rw [← hA9]
    refine wpAnyH_take (i := 9) (oi := rop9) (v := (.pointer (some ⟨b, 12, none⟩))) (by rfl) (by kernel_rfl) (by kernel_rfl) (by kernel_rfl) (fun _ _ _ h => h) (y_row rfl _ rfl b e41A9) (k6.range hra hKr) ?_
    show wpAnyH _ _ _ _ _ _ _ (A9.put (some 42) (.pointer (some ⟨b, 12, none⟩))) _
    obtain ⟨A10, hA10⟩ : ∃ A10, A10 = A9.put (some 42) (.pointer (some ⟨b, 12, none⟩)) := ⟨_, rfl⟩
    have sA10 : A10.tmps.size = 57 := by rw [hA10, sz_put]; exact sA9
    have e42A10 : A10.eval (.tmp 42) = (.pointer (some ⟨b, 12, none⟩)) := by rw [hA10]; exact ev_same _ _ _ (by rw [sA9]; omega)
    have e40A10 : A10.eval (.tmp 40) = rv' := by rw [hA10, ev_ne _ _ _ _ (by omega)]; exact e40A9
    rw [← hA10]
    refine held_one 10 rop10 (by kernel_rfl) (by rfl) rfl ?_
    intro K' hK
    refine wp_store_one 99 _ _ rfl (by kernel_rfl) b 12 rv' e42A10 e40A10 hr6.one (by rw [k6.held cR hbr]; rfl) ((k6.frozen M4.hb hbr 12).trans (M4.z 12)) ?_
    refine hK _ _ ?_ ?_
    · exact ((Sp.refl [b] w6).set b 12 (by simp) _).range (k6.range hra hKr) hKb2
    clear hK K'
    refine wpAnyH_done (by kernel_rfl) (NoPanic.normal ?_) _
    show Q .normal A10 (w6.setCell ⟨b, 12, none⟩ rv')
    have := hfin N rv' w6 hr6 k6 ho7
    rw [hA10, hA9, hA8, hA7, hA6, hA5, hA4, hA3, hA2, hA1]
    exact this
  · intro K' hK
    refine wp_buildW _ rfl (i, s) hs e38A5 ?_
    intro N W2 kN hN hkN
    have kW2 : Kp w4 W2 := kW.trans kN
    refine hK _ _ ?_ ?_
    · exact ((kW2.sp []).range hra (by simp))
    clear hK K'
    show wpAnyH _ _ _ _ _ _ _ (A5.put (some 39) (.slice (some ⟨N, 0, none⟩) 1 1)) _
    obtain ⟨A11, hA11⟩ : ∃ A11, A11 = A5.put (some 39) (.slice (some ⟨N, 0, none⟩) 1 1) := ⟨_, rfl⟩
    have sA11 : A11.tmps.size = 57 := by rw [hA11, sz_put]; exact sA5
    have e39A11 : A11.eval (.tmp 39) = (.slice (some ⟨N, 0, none⟩) 1 1) := by rw [hA11]; exact ev_same _ _ _ (by rw [sA5]; omega)
    have e33A11 : A11.eval (.tmp 33) = (.pointer (some ⟨b, 0, none⟩)) := by rw [hA11, ev_ne _ _ _ _ (by omega)]; exact e33A5
    have e36A11 : A11.eval (.tmp 36) = (.pointer (some ⟨b, 12, none⟩)) := by rw [hA11, ev_ne _ _ _ _ (by omega)]; exact e36A5
    rw [← hA11]
    refine held_one 4 rop4 (by kernel_rfl) (by rfl) rfl ?_
    intro K' hK
    refine wp_load_one 99 _ rfl Try.isAgg99 b 12 rv e36A11 (kW2.held cR) ?_
    refine hK _ _ ?_ ?_
    · exact ((kW2.sp []).range hra (by simp))
    clear hK K'
    show wpAnyH _ _ _ _ _ _ _ (A11.put (some 37) rv) _
    obtain ⟨A12, hA12⟩ : ∃ A12, A12 = A11.put (some 37) rv := ⟨_, rfl⟩
    have sA12 : A12.tmps.size = 57 := by rw [hA12, sz_put]; exact sA11
    have e37A12 : A12.eval (.tmp 37) = rv := by rw [hA12]; exact ev_same _ _ _ (by rw [sA11]; omega)
    have e33A12 : A12.eval (.tmp 33) = (.pointer (some ⟨b, 0, none⟩)) := by rw [hA12, ev_ne _ _ _ _ (by omega)]; exact e33A11
    have e39A12 : A12.eval (.tmp 39) = (.slice (some ⟨N, 0, none⟩) 1 1) := by rw [hA12, ev_ne _ _ _ _ (by omega)]; exact e39A11
    rw [← hA12]
    refine held_one 7 rop7 (by kernel_rfl) (by rfl) rfl ?_
    intro K' hK
    refine wp_append_w _ _ rfl rv S.row N 1 (i, s) e37A12 e39A12 (M4.rw.sp (kW2.sp []) (fun _ _ => by simp)) hs hN hrl ?_
    intro rv' w6 hr6 hg6 ho6
    refine hK _ _ ?_ ?_
    · exact (grown_sp hg6).range ((kW2.sp []).range hra (by simp)) hKr
    clear hK K'
    have k6 : Sp rv.ownBlock.toList w4 w6 := (kW2.sp _).trans (grown_sp hg6)
    have ho7 : ∀ g, rv'.ownBlock = some g → rv.ownBlock = some g ∨ w4.heap.size ≤ g := fun g hg => by
      rcases ho6 with h | h
      · left; rw [← h]; exact hg
      · right; rw [h] at hg; cases hg; exact kW2.size
    show wpAnyH _ _ _ _ _ _ _ (A12.put (some 40) rv') _
    obtain ⟨A13, hA13⟩ : ∃ A13, A13 = A12.put (some 40) rv' := ⟨_, rfl⟩
    have sA13 : A13.tmps.size = 57 := by rw [hA13, sz_put]; exact sA12
    have e40A13 : A13.eval (.tmp 40) = rv' := by rw [hA13]; exact ev_same _ _ _ (by rw [sA12]; omega)
    have e33A13 : A13.eval (.tmp 33) = (.pointer (some ⟨b, 0, none⟩)) := by rw [hA13, ev_ne _ _ _ _ (by omega)]; exact e33A12
    rw [← hA13]
    refine wpAnyH_take (i := 8) (oi := rop8) (v := (.pointer (some ⟨b, 0, none⟩))) (by rfl) (by kernel_rfl) (by kernel_rfl) (by kernel_rfl) (fun _ _ _ h => h) (y_nil rfl _ rfl _ e33A13) (k6.range hra hKr) ?_
    show wpAnyH _ _ _ _ _ _ _ (A13.put (some 41) (.pointer (some ⟨b, 0, none⟩))) _
    obtain ⟨A14, hA14⟩ : ∃ A14, A14 = A13.put (some 41) (.pointer (some ⟨b, 0, none⟩)) := ⟨_, rfl⟩
    have sA14 : A14.tmps.size = 57 := by rw [hA14, sz_put]; exact sA13
    have e41A14 : A14.eval (.tmp 41) = (.pointer (some ⟨b, 0, none⟩)) := by rw [hA14]; exact ev_same _ _ _ (by rw [sA13]; omega)
    have e40A14 : A14.eval (.tmp 40) = rv' := by rw [hA14, ev_ne _ _ _ _ (by omega)]; exact e40A13
    rw [← hA14]
    refine wpAnyH_take (i := 9) (oi := rop9) (v := (.pointer (some ⟨b, 12, none⟩))) (by rfl) (by kernel_rfl) (by kernel_rfl) (by kernel_rfl) (fun _ _ _ h => h) (y_row rfl _ rfl b e41A14) (k6.range hra hKr) ?_
    show wpAnyH _ _ _ _ _ _ _ (A14.put (some 42) (.pointer (some ⟨b, 12, none⟩))) _
    obtain ⟨A15, hA15⟩ : ∃ A15, A15 = A14.put (some 42) (.pointer (some ⟨b, 12, none⟩)) := ⟨_, rfl⟩
    have sA15 : A15.tmps.size = 57 := by rw [hA15, sz_put]; exact sA14
    have e42A15 : A15.eval (.tmp 42) = (.pointer (some ⟨b, 12, none⟩)) := by rw [hA15]; exact ev_same _ _ _ (by rw [sA14]; omega)
    have e40A15 : A15.eval (.tmp 40) = rv' := by rw [hA15, ev_ne _ _ _ _ (by omega)]; exact e40A14
    rw [← hA15]
    refine held_one 10 rop10 (by kernel_rfl) (by rfl) rfl ?_
    intro K' hK
    refine wp_store_one 99 _ _ rfl (by kernel_rfl) b 12 rv' e42A15 e40A15 hr6.one (by rw [k6.held cR hbr]; rfl) ((k6.frozen M4.hb hbr 12).trans (M4.z 12)) ?_
    refine hK _ _ ?_ ?_
    · exact ((Sp.refl [b] w6).set b 12 (by simp) _).range (k6.range hra hKr) hKb2
    clear hK K'
    refine wpAnyH_done (by kernel_rfl) (NoPanic.normal ?_) _
    show Q .normal A15 (w6.setCell ⟨b, 12, none⟩ rv')
    have := hfin N rv' w6 hr6 k6 ho7
    rw [hA15, hA14, hA13, hA12, hA11, hA5, hA4, hA3, hA2, hA1, put_comm _ 39 37 _ _ (by omega)]
    exact this

end Go.Proofs.Ytmklkdopmemfaaa
