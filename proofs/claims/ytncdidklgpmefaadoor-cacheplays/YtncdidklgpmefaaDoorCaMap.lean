/-
  A map of the call's own from numbers to what is held (MpP): which block each stripe's lies in. No condition.
-/
import Derived.Test.YtncdidklgpmefaaDoorCaCol
namespace Go.Proofs.YtncdidklgpmefaaDoor
open Go.RowKit Plain Go.Maps Go.WideMaps
set_option linter.unusedVariables false

/-- how a pointer reads in it: by its block. -/
def ptE' : Value → Option (DataW Unit × List MemPlace)
  | .pointer none => some (.nil, [])
  | .pointer (some ⟨b, 0, none⟩) => some (.lit (.int .u64 b), [])
  | _ => none
theorem ptE_mk (b : Nat) : ptE' (.pointer (some ⟨b, 0, none⟩)) = some (.lit (.int .u64 b), []) := rfl
theorem ptE_none : ptE' (.pointer none) = some (.nil, []) := rfl
theorem ptE_inv {v : Value} {y : DataW Unit × List MemPlace} (h : ptE' v = some y) : (v = .pointer none ∧ y = (.nil, [])) ∨ ∃ b : Nat, v = .pointer (some ⟨b, 0, none⟩) ∧ y = (.lit (.int .u64 b), []) := by
  unfold ptE' at h
  split at h
  · exact .inl ⟨rfl, (Option.some.inj h).symm⟩
  · exact .inr ⟨_, rfl, (Option.some.inj h).symm⟩
  · cases h
theorem zeroP (w : World) : (zeroValue 62).run Tryd.prog w = .ok (.pointer none) w := by kernel_rfl
/-- block b is such a map, c of them: f tells which. -/
structure MpP (w : World) (b n c : Nat) (f : Int → Option Nat) (D : DataW Unit) : Prop where
  own : w.ownsMap Tryd.prog 3 ptE' b n D
  sz : Maps.size D = c
  at_ : ∀ i, iOk i → Maps.has D (.int .i64 i) = (f i).isSome ∧ ∀ g, f i = some g → ∀ z, D.atKey (.int .i64 i) z = .lit (.int .u64 (g : Nat))
theorem MpP.lt {w : World} {b n c : Nat} {f : Int → Option Nat} {D : DataW Unit} (h : MpP w b n c f D) : b < w.heap.size := h.own.lt
theorem MpP.blk {w w' : World} {b n c : Nat} {f : Int → Option Nat} {D : DataW Unit} (h : MpP w b n c f D) (k : w'.heap[b]? = w.heap[b]?) : MpP w' b n c f D := by
  obtain ⟨es, clock, hbk, F⟩ := h.own
  exact ⟨⟨es, clock, k.trans hbk, F⟩, h.sz, h.at_⟩
theorem MpP.made (w : World) : MpP (w.alloc (.map #[] 0)) w.heap.size 0 0 (fun _ => none) (.map []) :=
  ⟨World.ownsMap_made w _ _ _, rfl, fun _ _ => ⟨rfl, fun _ h => by cases h⟩⟩
def ptO : Option Nat → Value
  | none => .pointer none
  | some g => .pointer (some ⟨g, 0, none⟩)
theorem MpP.look {w : World} {b n c : Nat} {f : Int → Option Nat} {D : DataW Unit} (h : MpP w b n c f D) {i : Int} (hi : iOk i) :
    (Instr.lookup 53 (.map (some b)) (.int .i64 i) true).run Tryd.prog w = .ok (.tuple #[ptO (f i), .bool (f i).isSome]) w := by
  obtain ⟨v, ps, hrun, hv⟩ := h.own.look_ok int_key Tryd.underlying53 (zeroP w) ptE_none (int_lit hi.1 hi.2)
  obtain ⟨h1, h2⟩ := h.at_ i hi
  rw [hrun, h1]
  cases hf : f i with
  | none =>
    rw [hf] at h1
    rw [Maps.atKey_of_not_has (by rw [h1]; rfl)] at hv
    rcases ptE_inv hv with ⟨rfl, _⟩ | ⟨g, rfl, e⟩
    · rfl
    · cases e
  | some g =>
    rw [h2 g hf] at hv
    rcases ptE_inv hv with ⟨rfl, e⟩ | ⟨g', rfl, e⟩
    · cases e
    · simp only [Prod.mk.injEq, DataW.lit.injEq, Lit.int.injEq] at e
      have e2 : g = g' := by have := e.1.2; omega
      rw [e2]; rfl
theorem MpP.len {w : World} {b n c : Nat} {f : Int → Option Nat} {D : DataW Unit} (h : MpP w b n c f D) (ty : TypeId) : (Builtin.len_ #[53] ty #[.map (some b)]).run Tryd.prog w = .ok (.int .i64 (c : Int)) w := by
  rw [h.own.len Tryd.underlying53 ty, h.sz]
theorem MpP.put {w : World} {b n c : Nat} {f : Int → Option Nat} {D : DataW Unit} (h : MpP w b n c f D) {i : Int} (hi : iOk i) (hn : n < 1000) (g : Nat) :
    ∃ w' D', (Instr.mapUpdate 53 (.map (some b)) (.int .i64 i) (.pointer (some ⟨g, 0, none⟩))).run Tryd.prog w = .ok () w' ∧ MpP w' b (n + 1) (if (f i).isSome = true then c else c + 1) (fun j => if j = i then some g else f j) D' ∧ Sp [b] w w' := by
  obtain ⟨w', hrun, ho, hg⟩ := h.own.update int_key Tryd.underlying53 (by unfold maxLen; omega) (int_lit hi.1 hi.2) (ptE_mk g)
  have hT := h.own.tidy int_key
  refine ⟨w', _, hrun, ⟨ho, ?_, fun j hj => ?_⟩, grown_sp hg⟩
  · rw [Maps.size_put hT, (h.at_ i hi).1, h.sz]
  · by_cases e : j = i
    · subst e
      show _ = (if j = j then some g else f j).isSome ∧ ∀ u, (if j = j then some g else f j) = some u → _
      rw [if_pos rfl]
      refine ⟨Maps.has_put_same (h.own.isMap) (by trivial) _, fun u hu => ?_⟩
      obtain rfl : g = u := Option.some.inj hu
      exact fun z => Maps.atKey_put_same (h.own.isMap) (by trivial) _ _
    · show _ = (if j = i then some g else f j).isSome ∧ ∀ u, (if j = i then some g else f j) = some u → _
      rw [if_neg e]
      have hne : (Lit.int .i64 j) ≠ (Lit.int .i64 i) := fun h => by
        injection h with _ h
        exact e h
      rw [Maps.has_put_other hne]
      refine ⟨(h.at_ j hj).1, fun u hu z => ?_⟩
      rw [Maps.atKey_put_other hne]
      exact (h.at_ j hj).2 u hu z
theorem MpP.del {w : World} {b n c : Nat} {f : Int → Option Nat} {D : DataW Unit} (h : MpP w b n c f D) {i : Int} (hi : iOk i) :
    ∃ w', (∀ ty, (Builtin.delete_ #[53, 3] ty #[.map (some b), .int .i64 i]).run Tryd.prog w = .ok (.tuple #[]) w') ∧ MpP w' b n (if (f i).isSome = true then c - 1 else c) (fun j => if j = i then none else f j) (D.del (.int .i64 i)) ∧ Sp [b] w w' := by
  have hkey := int_lit hi.1 hi.2
  obtain ⟨w', hrun, ho, hg⟩ := h.own.drop int_key Tryd.underlying53 hkey 0
  have hT := h.own.tidy int_key
  refine ⟨w', fun ty => hrun, ⟨ho, ?_, fun j hj => ?_⟩, grown_sp hg.grown⟩
  · have := Maps.size_del (k := Lit.int .i64 i) hT
    rw [(h.at_ i hi).1, h.sz] at this
    split
    · rename_i e; rw [if_pos e] at this; omega
    · rename_i e; rw [if_neg e] at this; omega
  · by_cases e : j = i
    · subst e
      show _ = (if j = j then none else f j).isSome ∧ ∀ u, (if j = j then none else f j) = some u → _
      rw [if_pos rfl]
      exact ⟨Maps.has_del_same, fun u h => by cases h⟩
    · show _ = (if j = i then none else f j).isSome ∧ ∀ u, (if j = i then none else f j) = some u → _
      rw [if_neg e]
      have hne : (Lit.int .i64 j) ≠ (Lit.int .i64 i) := fun h => by
        injection h with _ h
        exact e h
      rw [Maps.has_del_other hne]
      refine ⟨(h.at_ j hj).1, fun u hu z => ?_⟩
      rw [Maps.atKey_del_other hne]
      exact (h.at_ j hj).2 u hu z

/-! ### a cache in memory -/
/-- which block a stripe's lies in. -/
def atF (S : TS) (A : Int → Nat) (k : Int) : Option Nat := if inT S k then some (A k) else none
/-- a cache in memory: its map in block mb, its turn at tb, what it has of a stripe k in block A k; the blocks of X lie beside it. -/
structure CB (w0 w : World) (c mb tb : Nat) (A : Int → Nat) (q : Nat) (C : CS) (X : List Nat) : Prop where
  tu : Tu w0 w tb C.S (c :: mb :: ((C.S.P ++ C.S.D).map A ++ X))
  h : w.heap[c]? = some (.cells #[.map (some mb), .pointer (some ⟨tb, 0, none⟩), .int .i64 C.W] 55 (0, 0))
  m : ∃ n D, n ≤ q ∧ MpP w mb n (C.S.P.length + C.S.D.length) (atF C.S A) D
  a : ∀ k, inT C.S k = true → Cl w (A k) 72 (hc (C.H k))
  bc : w0.heap.size ≤ c
  bm : w0.heap.size ≤ mb
  ba : ∀ k, inT C.S k = true → w0.heap.size ≤ A k
  cm : c ≠ mb
  ac : ∀ k, inT C.S k = true → A k ≠ c ∧ A k ≠ mb
  aa : ∀ j k, inT C.S j = true → inT C.S k = true → A j = A k → j = k
  xs : ∀ x ∈ X, x ≠ c ∧ x ≠ mb ∧ ∀ k, inT C.S k = true → x ≠ A k
section
variable {w0 w w' : World} {c mb tb q : Nat} {A : Int → Nat} {C : CS} {X : List Nat}
theorem CB.inA (h : CB w0 w c mb tb A q C X) {k : Int} (hk : inT C.S k = true) : A k ∈ c :: mb :: ((C.S.P ++ C.S.D).map A ++ X) := List.mem_cons_of_mem _ (List.mem_cons_of_mem _ (List.mem_append_left _ (List.mem_map_of_mem (in_iff.1 hk))))
theorem CB.inX (h : CB w0 w c mb tb A q C X) {x : Nat} (hx : x ∈ X) : x ∈ c :: mb :: ((C.S.P ++ C.S.D).map A ++ X) := List.mem_cons_of_mem _ (List.mem_cons_of_mem _ (List.mem_append_right _ hx))
theorem CB.xlt (h : CB w0 w c mb tb A q C X) {x : Nat} (hx : x ∈ X) : x < w.heap.size := by
  obtain ⟨_, _, _, _, h5⟩ := h.tu
  exact (h5 x (h.inX hx)).2
theorem CB.cells (h : CB w0 w c mb tb A q C X) : w.cell? ⟨c, 0, none⟩ = some (.map (some mb)) ∧ w.cell? ⟨c, 1, none⟩ = some (.pointer (some ⟨tb, 0, none⟩)) ∧ w.cell? ⟨c, 2, none⟩ = some (.int .i64 C.W) := ⟨cell_of h.h 0, cell_of h.h 1, cell_of h.h 2⟩
theorem CB.more (h : CB w0 w c mb tb A q C X) {q' : Nat} (hq : q ≤ q') : CB w0 w c mb tb A q' C X := by
  obtain ⟨n, D, h1, h2⟩ := h.m
  exact { h with m := ⟨n, D, Nat.le_trans h1 hq, h2⟩ }
/-- a call that leaves all its blocks. -/
theorem CB.kp (h : CB w0 w c mb tb A q C X) (k : Kp w w') : CB w0 w' c mb tb A q C X ∧ Lk X w w' := by
  obtain ⟨u, l⟩ := h.tu.kp k
  obtain ⟨n, D, h1, h2⟩ := h.m
  exact ⟨{ h with tu := u, h := (l c (by simp)).trans h.h, m := ⟨n, D, h1, h2.blk (l mb (by simp))⟩, a := fun j hj => (h.a j hj).kp k }, fun x hx => l x (h.inX hx)⟩
/-- a call on its turn that leaves which keys there are. -/
theorem CB.turn {S' : TS} (h : CB w0 w c mb tb A q C X) (u : Tu w0 w' tb S' (c :: mb :: ((C.S.P ++ C.S.D).map A ++ X))) (l : Lk (c :: mb :: ((C.S.P ++ C.S.D).map A ++ X)) w w') (hp : (S'.P ++ S'.D).Perm (C.S.P ++ C.S.D)) : CB w0 w' c mb tb A q { C with S := S' } X ∧ Lk X w w' := by
  have hin : ∀ k, inT S' k = inT C.S k := fun k => by
    cases e : inT C.S k with
    | true => exact in_iff.2 (hp.mem_iff.2 (in_iff.1 e))
    | false => exact in_not.2 (fun hm => in_not.1 e (hp.mem_iff.1 hm))
  have hl := hp.length_eq
  rw [List.length_append, List.length_append] at hl
  obtain ⟨n, D, h1, h2⟩ := h.m
  refine ⟨⟨u.less (fun x hx => ?_), (l c (by simp)).trans h.h, ⟨n, D, h1, ?_⟩, fun k hk => ?_, h.bc, h.bm, fun k hk => h.ba k (by rw [← hin]; exact hk), h.cm, fun k hk => h.ac k (by rw [← hin]; exact hk), fun j k hj hk => h.aa j k (by rw [← hin]; exact hj) (by rw [← hin]; exact hk), fun x hx => ⟨(h.xs x hx).1, (h.xs x hx).2.1, fun k hk => (h.xs x hx).2.2 k (by rw [← hin]; exact hk)⟩⟩, fun x hx => l x (h.inX hx)⟩
  · rcases List.mem_cons.1 hx with rfl | hx
    · simp
    · rcases List.mem_cons.1 hx with rfl | hx
      · simp
      · rcases List.mem_append.1 hx with hx | hx
        · obtain ⟨k, hk, rfl⟩ := List.mem_map.1 hx
          exact h.inA (in_iff.2 (hp.mem_iff.1 hk))
        · exact h.inX hx
  · have e : atF S' A = atF C.S A := funext fun k => by unfold atF; rw [hin]
    show MpP w' mb n (S'.P.length + S'.D.length) (atF S' A) D
    rw [e, hl]
    exact h2.blk (l mb (by simp))
  · have hk' : inT C.S k = true := by rw [← hin]; exact hk
    exact (h.a k hk').blk (l (A k) (h.inA hk'))
/-- stores into what is held of a stripe. -/
theorem CB.held (h : CB w0 w c mb tb A q C X) {k : Int} {x : Hd} (hk : inT C.S k = true) (hs : Sp [A k] w w') (hx : Cl w' (A k) 72 (hc x)) : CB w0 w' c mb tb A q { C with H := upH C.H k x } X ∧ Lk X w w' := by
  obtain ⟨n, D, h1, h2⟩ := h.m
  obtain ⟨a1, a2⟩ := h.ac k hk
  refine ⟨⟨h.tu.sp hs (fun t ht => ?_), (hs.block c (heap_lt h.h) (by simpa using Ne.symm a1)).trans h.h, ⟨n, D, h1, h2.blk (hs.block mb h2.lt (by simpa using Ne.symm a2))⟩, fun j hj => ?_, h.bc, h.bm, h.ba, h.cm, h.ac, h.aa, h.xs⟩, fun y hy => ?_⟩
  · rw [List.mem_singleton.1 ht]
    exact ⟨h.inA hk, h.ba k hk⟩
  · show Cl w' (A j) 72 (hc (upH C.H k x j))
    by_cases e : j = k
    · rw [e, upH_at]; exact hx
    · rw [upH_off _ _ e]
      have hne : A j ≠ A k := fun e2 => e (h.aa j k hj hk e2)
      exact (h.a j hj).sp hs (by simpa using hne)
  · have := (h.xs y hy).2.2 k hk
    exact hs.block y (h.xlt hy) (by simpa using this)
end

end Go.Proofs.YtncdidklgpmefaaDoor
