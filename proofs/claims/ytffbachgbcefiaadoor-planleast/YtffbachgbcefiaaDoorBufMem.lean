/-
  Lists of texts in memory (StrsIn), whether they may be buffers of one length (fitE), a text's bytes appended to a row of the call's own, and contracts of bulk's length and of the document's Fit. Conditions: that the list's cells hold the texts.
-/
import Derived.Test.YtffbachgbcefiaaDoorBufPlain
import Derived.Test.YtffbachgbcefiaaDoorExt
import Derived.Deep.AppendSrc
import Derived.OwnWalk
namespace Go.Proofs.YtffbachgbcefiaaDoor
open Go.RowKit Plain

/-- w' is w with whatever is new behind it. -/
def Kp (w w' : World) : Prop := Below w.heap.size w w'
theorem Kp.refl (w : World) : Kp w w := Below.refl _ _
theorem Kp.trans {a b c : World} (h : Kp a b) (k : Kp b c) : Kp a c := Below.trans h (Below.mono k h.size)
theorem Kp.alloc {a b : World} (h : Kp a b) (o : Obj) : Kp a (b.alloc o) := Below.alloc h h.size o
theorem Kp.drew {a b : World} (h : Kp a b) : Kp a b.drew := Below.drew h
theorem Kp.ext {a b c : World} (h : Kp a b) (k : Ext b c) : Kp a c := h.trans k.below
theorem Kp.cell {w w' : World} (h : Kp w w') {b o : Nat} (hb : b < w.heap.size) : w'.cell? ⟨b, o, none⟩ = w.cell? ⟨b, o, none⟩ := Below.cell (p := ⟨b, o, none⟩) h hb
theorem Kp.held {w w' : World} (h : Kp w w') {b o : Nat} {v : Value} (hc : w.cell? ⟨b, o, none⟩ = some v) : w'.cell? ⟨b, o, none⟩ = some v := (h.cell (World.block_lt_of_cell? w _ hc)).trans hc
theorem Kp.grown {a b c : World} {row : Option Nat} (h : Kp a b) (g : b.grownBy c row) (hr : ∀ k, row = some k → a.heap.size ≤ k) : Kp a c := Below.grown h g h.size hr

/-- a list of texts in memory. -/
inductive StrsIn (w : World) : Value → List ByteArray → Prop
  | empty (a : Option Addr) (cap : Nat) (h : cap ≤ maxLen) : StrsIn w (.slice a 0 cap) []
  | some (b off cap : Nat) (l : List ByteArray) (h0 : 0 < l.length) (h1 : l.length ≤ cap) (h2 : cap ≤ maxLen) (hc : ∀ i, i < l.length → w.cell? ⟨b, off + i, none⟩ = Option.some (.string (l.getD i noS))) : StrsIn w (.slice (Option.some ⟨b, off, none⟩) l.length cap) l
theorem StrsIn.kept {w w' : World} {v : Value} {l : List ByteArray} (h : StrsIn w v l) (k : Kp w w') : StrsIn w' v l := by
  cases h with
  | empty a cap h => exact .empty a cap h
  | some b off cap l h0 h1 h2 hc => exact .some b off cap l h0 h1 h2 (fun i hi => k.held (hc i hi))
theorem StrsIn.lit1 (w : World) (x : ByteArray) (t : TypeId) : StrsIn (w.alloc (.cells #[.string x] t)) (.slice (Option.some ⟨w.heap.size, 0, none⟩) 1 1) [x] :=
  .some w.heap.size 0 1 [x] (by simp) (by simp) (by unfold maxLen; omega) (fun i hi => by
    obtain rfl : i = 0 := by simp at hi; omega
    rw [World.cell?_alloc_at _ _ _ _ rfl]; rfl)
theorem StrsIn.lit2 (w : World) (x y : ByteArray) (t : TypeId) : StrsIn (w.alloc (.cells #[.string x, .string y] t)) (.slice (Option.some ⟨w.heap.size, 0, none⟩) 2 2) [x, y] :=
  .some w.heap.size 0 2 [x, y] (by simp) (by simp) (by unfold maxLen; omega) (fun i hi => by
    have h : i = 0 ∨ i = 1 := by simp at hi; omega
    rcases h with rfl | rfl <;> (rw [World.cell?_alloc_at _ _ _ _ rfl]; rfl))
theorem StrsIn.owned {w : World} {base : Nat} {e : TypeId} {v : Value} {l : List ByteArray} (h : w.ownsRow base e 1 v l.length (l.map Value.string)) : StrsIn w v l := by
  rcases h.2 with ⟨rfl, h0⟩ | ⟨g, cap, cur, rfl, _, hg, hn, hm, _, htake⟩
  · obtain rfl : l = [] := List.eq_nil_of_length_eq_zero h0
    exact .empty none 0 (by unfold maxLen; omega)
  · by_cases h0 : l.length = 0
    · obtain rfl : l = [] := List.eq_nil_of_length_eq_zero h0
      exact .empty _ cap hm
    · refine .some g 0 cap l (by omega) hn hm (fun i hi => ?_)
      rw [Nat.zero_add, h.cellAt i (by omega)]
      simp [List.getD_eq_getElem?_getD, hi]

theorem StrsIn.two {w : World} {v : Value} {A B : ByteArray} (h : StrsIn w v [A, B]) : ∃ b off cap, v = .slice (Option.some ⟨b, off, none⟩) 2 cap ∧ 2 ≤ cap ∧ cap ≤ 9223372036854775807 ∧ w.cell? ⟨b, off, none⟩ = Option.some (.string A) ∧ w.cell? ⟨b, off + 1, none⟩ = Option.some (.string B) := by
  obtain ⟨l, hl⟩ : ∃ l, l = [A, B] := ⟨_, rfl⟩
  rw [← hl] at h
  cases h with
  | empty a cap h => cases hl
  | some b off cap l h0 h1 h2 hc =>
    subst hl
    exact ⟨b, off, cap, rfl, h1, by unfold maxLen at h2; omega, hc 0 (by simp), hc 1 (by simp)⟩

/-- 0: buffers of one length; 2: one is too long; 4: of unlike lengths. -/
def fitE (l : List ByteArray) : Int := if ∀ s ∈ l, s.size ≤ 65536 then (if ∀ s ∈ l, s.size = (l.getD 0 noS).size then 0 else 4) else 2
def lenS (l : List ByteArray) : Nat := if fitE l = 0 then (l.getD 0 noS).size else 0
theorem mem_of_at (l : List ByteArray) (i : Nat) (h : i < l.length) : l.getD i noS ∈ l := by
  rw [List.getD_eq_getElem?_getD, List.getElem?_eq_getElem h]
  exact List.getElem_mem h
theorem all_of_at {P : ByteArray → Prop} {l : List ByteArray} (h : ∀ i, i < l.length → P (l.getD i noS)) : ∀ s ∈ l, P s := by
  intro s hs
  obtain ⟨i, hi, rfl⟩ := List.getElem_of_mem hs
  have := h i hi
  rw [List.getD_eq_getElem?_getD, List.getElem?_eq_getElem hi] at this
  exact this
theorem fit_big {l : List ByteArray} (i : Nat) (h : i < l.length) (hb : 65536 < (l.getD i noS).size) : fitE l = 2 := by
  unfold fitE
  rw [if_neg]
  intro hh
  have := hh _ (mem_of_at l i h)
  omega
theorem fit_unlike {l : List ByteArray} (hs : ∀ i, i < l.length → (l.getD i noS).size ≤ 65536) (i : Nat) (h : i < l.length) (hb : (l.getD i noS).size ≠ (l.getD 0 noS).size) : fitE l = 4 := by
  unfold fitE
  rw [if_pos (all_of_at hs), if_neg]
  intro hh
  exact hb (hh _ (mem_of_at l i h))
theorem fit_ok {l : List ByteArray} (hs : ∀ i, i < l.length → (l.getD i noS).size ≤ 65536) (he : ∀ i, i < l.length → (l.getD i noS).size = (l.getD 0 noS).size) : fitE l = 0 := by
  unfold fitE
  rw [if_pos (all_of_at hs), if_pos (all_of_at he)]
theorem fit_is (l : List ByteArray) (h : fitE l = 0) : (∀ i, i < l.length → (l.getD i noS).size ≤ 65536) ∧ ∀ i, i < l.length → (l.getD i noS).size = (l.getD 0 noS).size := by
  unfold fitE at h
  split at h
  · rename_i h1
    split at h
    · rename_i h2
      exact ⟨fun i hi => h1 _ (mem_of_at l i hi), fun i hi => h2 _ (mem_of_at l i hi)⟩
    · cases h
  · cases h
theorem fit_zero (l : List ByteArray) (h : fitE l = 0) : lenS l = (l.getD 0 noS).size := by unfold lenS; rw [if_pos h]
theorem fit_not (l : List ByteArray) (h : fitE l ≠ 0) : lenS l = 0 := by unfold lenS; rw [if_neg h]
theorem fit_range (l : List ByteArray) : fitE l = 0 ∨ fitE l = 2 ∨ fitE l = 4 := by unfold fitE; split <;> (try split) <;> simp

/-! ### a text's bytes appended to a row of the call's own, within the capacity -/
section
variable {P : Program} (w : World)
theorem run_append_fits_str (base : Nat) (t tx ty e : TypeId) (i : TypeInfo) (ht : P.underlying t = some (.slice e)) (htx : P.underlying tx = some .string) (hi : P.info? e = some i) (hsize : i.size = 1)
    (g n cap : Nat) (xs : List Value) (hown : w.ownsRow base e 1 (.slice (some ⟨g, 0, none⟩) n cap) n xs) (s : ByteArray) (hroom : n + s.size ≤ cap) :
    ∃ w', (Builtin.append_ #[t, tx] ty #[.slice (some ⟨g, 0, none⟩) n cap, .string s]).run P w = .ok (.slice (some ⟨g, 0, none⟩) (n + s.size) cap) w' ∧
      w'.ownsRow base e 1 (.slice (some ⟨g, 0, none⟩) (n + s.size) cap) (n + s.size) (xs ++ byteCells s) ∧ w.grownBy w' (some g) := by
  have hl := byteCells_length s
  have hlen : (xs ++ byteCells s).length = (n + s.size) * 1 := by rw [List.length_append, hown.1, hl]; omega
  have h1 := (Src.ofString (P := P) w htx s).one
  rcases hown.2 with ⟨h, _⟩ | ⟨g', cap', cur, h, hbg, hg, hnc, hcm, hcs, htake⟩
  · simp at h
  · simp only [Value.slice.injEq, Option.some.injEq, Addr.mk.injEq, and_true, true_and] at h
    obtain ⟨rfl, rfl⟩ := h
    have hst := run_storeCells_at P g (n * i.size) e (byteCells s) 0 cur w hg (by rw [hl, hcs, hsize]; omega) h1
    simp only [Nat.add_zero] at hst
    have hr : (Builtin.append_ #[t, tx] ty #[.slice (some ⟨g, 0, none⟩) n cap, .string s]).run P w =
      .ok (.slice (some ⟨g, 0, none⟩) (n + s.size) cap) (w.setRow g (cur.toList.take (n * i.size) ++ byteCells s ++ cur.toList.drop (n * i.size + (byteCells s).length)).toArray) := by
      have hf := firstCells_string (P := P) s w
      simp [Builtin.append_, run_underlying ht, run_underlying htx, sizeOf, typeInfo, hi, Builtin.lenOf, hroom, hsize, hf, Addr.add_lit]
      rw [hsize, Nat.mul_one] at hst
      simp [hst]
    rw [hsize] at hr
    refine ⟨_, hr, ⟨hlen, .inr ⟨g, cap, _, rfl, hbg, setRow_heap w g cur _ e _ hg, hroom, hcm, ?_, ?_⟩⟩, ⟨rfl, rfl, rfl, by simp, fun k _ hk => setRow_other w g k _ (fun e => hk (by simp [e]))⟩⟩
    · simp only [List.size_toArray, List.length_append, List.length_take, List.length_drop, Array.length_toList]
      omega
    · rw [htake, ← hlen]
      exact List.take_left

theorem wpList_append_fits_str {ops : Array Oper} {rest : List Oper} {o : Oper} {a : Act} {Q : Exit → Act → World → Prop}
    (hg : o.guard = none) (s x : Operand) (t tx : TypeId) (hop : o.op = Op.call { callee := Callee.builtin Builtin.append, args := #[s, x], argTypes := #[t, tx] })
    (base : Nat) (e : TypeId) (i : TypeInfo) (h1 : P.underlying t = some (.slice e)) (htx : P.underlying tx = some .string) (h2 : P.info? e = some i) (h4 : i.size = 1)
    (g k cap : Nat) (xs : List Value) (hs : a.eval s = .slice (some ⟨g, 0, none⟩) k cap) (hown : w.ownsRow base e 1 (.slice (some ⟨g, 0, none⟩) k cap) k xs) (tt : ByteArray) (hx : a.eval x = .string tt) (b1 : k + tt.size ≤ cap)
    (hK : ∀ w', w'.ownsRow base e 1 (.slice (some ⟨g, 0, none⟩) (k + tt.size) cap) (k + tt.size) (xs ++ byteCells tt) → w.grownBy w' (some g) → wpList P ops Q rest (a.put o.dst (.slice (some ⟨g, 0, none⟩) (k + tt.size) cap)) w') :
    wpList P ops Q (o :: rest) a w := by
  refine wpList_plain hg fun K hK' => ?_
  obtain ⟨w', hrun, r1, r2⟩ := run_append_fits_str (P := P) w base t tx o.type e i h1 htx h2 h4 g k cap xs hown tt b1
  unfold Oper.wp
  simp [execOp, hop, resolve, invoke, builtin, hs, hx, hrun, Result.andThen]
  exact hK' _ _ (hK w' r1 r2)
end

/-- a row of bytes of the call's own, as a text. -/
theorem convert_owned {P : Program} {w : World} {base g n cap : Nat} {e : TypeId} {m : Nat} {f : Nat → Nat} (src dst : TypeId) (hs : P.underlying src = some (.slice e)) (he : P.underlying e = some (.int .u8)) (hd : P.underlying dst = some .string)
    (h : w.ownsRow base e 1 (.slice (some ⟨g, 0, none⟩) n cap) n ((List.range n).map fun i => Value.int .u8 ((f i : Nat) : Int))) (hm : m ≤ n) (c : Nat) :
    (convert src dst (.slice (some ⟨g, 0, none⟩) m c)).run P w = .ok (.string (bs m f)) w := by
  refine run_convert_bytes_arg (P := P) w src e hs he g 0 m c ((List.range m).map fun i => ((f i : Nat) : Int)) (by simp) (fun i hi => ?_) dst hd
  rw [Nat.zero_add, h.cellAt i (by omega)]
  simp [List.getD_eq_getElem?_getD, hi, show i < n by omega]

end Go.Proofs.YtffbachgbcefiaaDoor
