/-
  A row of texts of the call's own that grows by appends; slices of lists of labels as plain data. Conditions: that the row is the call's own.
-/
import Derived.Test.YtobpgfnmhpgkeaaLbNewest
import Derived.Test.YtobpgfnmhpgkeaaLbArgs
namespace Go.Proofs.Ytobpgfnmhpgkeaa
open Go.RowKit Plain
set_option linter.unusedVariables false

def Ts (w : World) (base : Nat) (v : Value) (l : List ByteArray) : Prop := w.ownsRow base 9 1 v l.length (l.map Value.string)
theorem info_str : (Try.prog.info? 9).map (fun i => (i.zero, i.size, i.bytes)) = some (some (.string ByteArray.empty), 1, 16) := by kernel_rfl
theorem Ts.kept {w w' : World} {base : Nat} {v : Value} {l : List ByteArray} (h : Ts w base v l) (k : Kp w w') : Ts w' base v l := k.own h
theorem wpList_app_str {w : World} {ops : Array Oper} {rest : List Oper} {o : Oper} {a : Act} {Q : Exit → Act → World → Prop} (hgd : o.guard = none) (s x : Operand)
    (ho : o.op = .call { callee := .builtin .append, args := #[s, x], argTypes := #[49, 49] })
    (base : Nat) (v : Value) (l : List ByteArray) (hs : a.eval s = v) (hown : Ts w base v l) (p : ByteArray) (k : Nat) (hx : a.eval x = .slice (some ⟨k, 0, none⟩) 1 1) (hc : w.cell? ⟨k, 0, none⟩ = some (.string p))
    (hlen : l.length ≤ 1000) (hbase : base ≤ w.heap.size)
    (h : ∀ v' w', Ts w' base v' (l ++ [p]) → w.grownBy w' v.ownBlock → wpList Try.prog ops Q rest (a.put o.dst v') w') : wpList Try.prog ops Q (o :: rest) a w := by
  obtain ⟨i0, hi, hz0, hz1, hz2⟩ := info_parts info_str
  refine wpList_append_own_at w hgd s x 49 ho base 9 i0 (.string ByteArray.empty) 1 16 Try.underlying49 hi hz0 hz1 hz2 rfl (by decide) v l.length _ hs hown ⟨k, 0, none⟩ 1 1 [.string p] hx rfl ?_ (by simp [Value.oneCell']) (by unfold maxLen; omega) (by omega) hbase (fun v' w' h1 h2 _ _ => h v' w' ?_ h2)
  · intro j u hj
    match j, hj with
    | 0, hj => simp at hj; subst hj; simpa [Addr.add] using hc
  · unfold Ts
    rw [List.length_append, List.map_append]
    exact h1
theorem sizeRw (W : World) : (sizeOf (Try.prog.elem 59)).run Try.prog W = .ok 5 W := by
  have hE : (Try.prog.info? 24).map (·.size) = some 5 := by kernel_rfl
  have he : Try.prog.elem 59 = 24 := by kernel_rfl
  rw [he]
  cases hq : Try.prog.info? 24 with
  | none => simp [hq] at hE
  | some i =>
    have hs : i.size = 5 := by simpa [hq] using hE
    simp [sizeOf, typeInfo, hq, hs]
theorem undRw : Try.prog.underlying 59 = some (.slice (Try.prog.elem 59)) := by kernel_rfl
def cutR (a : Option Addr) (cap : Nat) : Option Addr := if cap = 0 then a else a.map (·.add 0)
theorem run_headR (a : Option Addr) (n cap j : Nat) (hj : j ≤ cap) (W : World) : (Instr.slice 59 (.slice a n cap) none (some (.int .i64 (j : Int))) none).run Try.prog W = .ok (.slice (cutR a cap) j cap) W := by
  rw [run_slice_h W 59 a n cap undRw .i64 j (by omega) (by omega), sizeRw]
  simp [sliced, cutR, Result.andThen]
theorem cutR_some (g off cap : Nat) : cutR (some ⟨g, off, none⟩) cap = some ⟨g, off, none⟩ := by
  unfold cutR
  split
  · rfl
  · simp [Addr.add]
theorem Raws.cells {w : World} {g off : Nat} {L : List RL} {k : Nat} (h : w.rangeAt g (off + k * 5) (rcs (L.getD k noR))) : w.cell? ⟨g, off + k * 5, none⟩ = some (.int .i64 (L.getD k noR).n) ∧ w.cell? ⟨g, off + k * 5 + 1, none⟩ = some (.int .i64 (L.getD k noR).s) ∧ w.cell? ⟨g, off + k * 5 + 2, none⟩ = some (.int .i64 (L.getD k noR).ep) ∧ w.cell? ⟨g, off + k * 5 + 3, none⟩ = some (L.getD k noR).sv ∧ w.cell? ⟨g, off + k * 5 + 4, none⟩ = some (L.getD k noR).mv :=
  ⟨h 0 _ rfl, h 1 _ rfl, h 2 _ rfl, h 3 _ rfl, h 4 _ rfl⟩

end Go.Proofs.Ytobpgfnmhpgkeaa
