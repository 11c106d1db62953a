/-
  The document's member in memory, and contracts of its calls: May, Fail, New, Put, Now, Read. Conditions: that it lies in memory.
-/
import Derived.Test.YtmklkdopmemfaaaMmTri
import Derived.Deep.RegionLaw
namespace Go.Proofs.Ytmklkdopmemfaaa
open Go.RowKit Plain
set_option linter.unusedVariables false

/-! ### its writes -/
def pcs : List (Nat × ByteArray) → List Value
  | [] => []
  | p :: r => .int .i64 (p.1 : Int) :: .string p.2 :: pcs r
theorem pcs_len : ∀ r, (pcs r).length = r.length * 2
  | [] => rfl
  | p :: r => by simp only [pcs, List.length_cons, pcs_len r]; omega
theorem pcs_app : ∀ r q, pcs (r ++ q) = pcs r ++ pcs q
  | [], _ => rfl
  | p :: r, q => by simp only [pcs, List.cons_append, pcs_app r q]
theorem pcs_at : ∀ (r : List (Nat × ByteArray)) (i : Nat), i < r.length → (pcs r)[i * 2]? = some (.int .i64 ((r.getD i (0, noS)).1 : Int)) ∧ (pcs r)[i * 2 + 1]? = some (.string (r.getD i (0, noS)).2)
  | [], i, h => by simp at h
  | p :: r, 0, h => by simp [pcs]
  | p :: r, i + 1, h => by
    have := pcs_at r i (by simpa using h)
    rw [show (i + 1) * 2 = i * 2 + 1 + 1 by omega]
    simpa [pcs] using this
theorem pcs_one : ∀ r, ∀ u ∈ pcs r, u.oneCell' = true
  | [], u, h => by cases h
  | p :: r, u, h => by
    simp only [pcs, List.mem_cons] at h
    rcases h with rfl | rfl | h
    · rfl
    · rfl
    · exact pcs_one r u h
/-- the document's member. -/
structure RefIn (w : World) (r gs cap : Nat) (wv : Value) (S : MS) : Prop where
  hr : r < w.heap.size
  hg : gs < w.heap.size
  c0 : w.cell? ⟨r, 0, none⟩ = some (.slice (some ⟨gs, 0, none⟩) S.las.length cap)
  c1 : w.cell? ⟨r, 1, none⟩ = some wv
  c2 : w.cell? ⟨r, 2, none⟩ = some (.bool S.dead)
  cn : ∀ j, j < 4 → w.cell? ⟨r, 3 + j, none⟩ = some (.int .i64 (S.c j))
  z : ∀ o, w.frozen? ⟨r, o, none⟩ = false
  s : ∀ i, i < S.las.length → w.cell? ⟨gs, i, none⟩ = some (.string (S.las.getD i noS))
  sz : ∀ i, w.frozen? ⟨gs, i, none⟩ = false
  q : w.ownsRow 0 106 2 wv S.row.length (pcs S.row)
  k1 : S.las.length ≤ cap
  k2 : cap ≤ 9223372036854775807
  n1 : gs ≠ r
  n2 : ∀ g, wv.ownBlock = some g → g ≠ r ∧ g ≠ gs
  fine : Fine S
def rblk (r gs : Nat) (wv : Value) : List Nat := r :: gs :: wv.ownBlock.toList
theorem RefIn.sp {w w' : World} {r gs cap : Nat} {wv : Value} {S : MS} (h : RefIn w r gs cap wv S) {T : List Nat} (k : Sp T w w') (hT : ∀ t, t ∈ rblk r gs wv → t ∉ T) : RefIn w' r gs cap wv S := by
  have h0 : r ∉ T := hT r (by simp [rblk])
  have h1 : gs ∉ T := hT gs (by simp [rblk])
  exact ⟨Nat.lt_of_lt_of_le h.hr k.size, Nat.lt_of_lt_of_le h.hg k.size, k.held h.c0 h0, k.held h.c1 h0, k.held h.c2 h0, fun j hj => k.held (h.cn j hj) h0, fun o => (k.frozen h.hr h0 o).trans (h.z o), fun i hi => k.held (h.s i hi) h1, fun i => (k.frozen h.hg h1 i).trans (h.sz i), k.own h.q (fun g hg => hT g (by simp [rblk, hg])), h.k1, h.k2, h.n1, h.n2, h.fine⟩
theorem RefIn.kp {w w' : World} {r gs cap : Nat} {wv : Value} {S : MS} (h : RefIn w r gs cap wv S) (k : Kp w w') : RefIn w' r gs cap wv S := h.sp (k.sp []) (fun _ _ h => by cases h)
theorem RefIn.low {w : World} {r gs cap : Nat} {wv : Value} {S : MS} (h : RefIn w r gs cap wv S) : ∀ t, t ∈ rblk r gs wv → t < w.heap.size := fun t ht => by
  simp only [rblk, List.mem_cons] at ht
  rcases ht with rfl | rfl | ht
  · exact h.hr
  · exact h.hg
  · exact (h.q.lt t (by simpa using ht)).2
/-- a store into its own block keeps the rest. -/
theorem RefIn.own {w w' : World} {r gs cap : Nat} {wv : Value} {S : MS} (h : RefIn w r gs cap wv S) (k : Sp [r] w w') : (∀ i, i < S.las.length → w'.cell? ⟨gs, i, none⟩ = some (.string (S.las.getD i noS))) ∧ (∀ i, w'.frozen? ⟨gs, i, none⟩ = false) ∧ w'.ownsRow 0 106 2 wv S.row.length (pcs S.row) := by
  have h1 : gs ∉ [r] := by simpa using h.n1
  exact ⟨fun i hi => k.held (h.s i hi) h1, fun i => (k.frozen h.hg h1 i).trans (h.sz i), k.own h.q (fun g hg => by simpa using (h.n2 g hg).1)⟩
theorem RefIn.count {w : World} {r gs cap : Nat} {wv : Value} {S : MS} (h : RefIn w r gs cap wv S) (j : Nat) (hj : j < 4) : RefIn (w.setCell ⟨r, 3 + j, none⟩ (.int .i64 (wrap64 (S.c j + 1)))) r gs cap wv ⟨S.now, S.las, S.row, S.dead, up S.c j⟩ := by
  have k := (Sp.refl [r] w).set r (3 + j) (by simp) (.int .i64 (wrap64 (S.c j + 1)))
  obtain ⟨s1, s2, s3⟩ := h.own k
  refine ⟨Nat.lt_of_lt_of_le h.hr k.size, Nat.lt_of_lt_of_le h.hg k.size, by rw [cell_off _ _ _ _ _ (by omega)]; exact h.c0, by rw [cell_off _ _ _ _ _ (by omega)]; exact h.c1, by rw [cell_off _ _ _ _ _ (by omega)]; exact h.c2, fun i hi => ?_, fun o => (World.frozen?_setCell _ _ _ _).trans (h.z o), s1, s2, s3, h.k1, h.k2, h.n1, h.n2, ⟨h.fine.n1, h.fine.n2, h.fine.nn, h.fine.bn, h.fine.bl, h.fine.br⟩⟩
  show _ = some (Value.int .i64 (up S.c j i))
  unfold up
  by_cases e : i = j
  · subst e; rw [World.cell?_setCell_same _ _ _ (h.cn i hi), if_pos rfl]
  · rw [cell_off _ _ _ _ _ (by omega), h.cn i hi, if_neg e]
theorem RefIn.death {w : World} {r gs cap : Nat} {wv : Value} {S : MS} (h : RefIn w r gs cap wv S) (d : Bool) : RefIn (w.setCell ⟨r, 2, none⟩ (.bool d)) r gs cap wv ⟨S.now, S.las, S.row, d, S.c⟩ := by
  have k := (Sp.refl [r] w).set r 2 (by simp) (.bool d)
  obtain ⟨s1, s2, s3⟩ := h.own k
  exact ⟨Nat.lt_of_lt_of_le h.hr k.size, Nat.lt_of_lt_of_le h.hg k.size, by rw [cell_off _ _ _ _ _ (by omega)]; exact h.c0, by rw [cell_off _ _ _ _ _ (by omega)]; exact h.c1, World.cell?_setCell_same _ _ _ h.c2, fun i hi => by rw [cell_off _ _ _ _ _ (by omega)]; exact h.cn i hi, fun o => (World.frozen?_setCell _ _ _ _).trans (h.z o), s1, s2, s3, h.k1, h.k2, h.n1, h.n2, ⟨h.fine.n1, h.fine.n2, h.fine.nn, h.fine.bn, h.fine.bl, h.fine.br⟩⟩
/-- another row. -/
theorem RefIn.row {w : World} {r gs cap : Nat} {wv : Value} {S : MS} (h : RefIn w r gs cap wv S) {w' : World} (k : Sp wv.ownBlock.toList w w') (wv' : Value) (row : List (Nat × ByteArray)) (hq : w'.ownsRow 0 106 2 wv' row.length (pcs row)) (hn : ∀ g, wv'.ownBlock = some g → g ≠ r ∧ g ≠ gs) (hz : ∀ p ∈ row, p.1 < S.las.length ∧ p.2.size = 64) : RefIn (w'.setCell ⟨r, 1, none⟩ wv') r gs cap wv' ⟨S.now, S.las, row, S.dead, S.c⟩ := by
  have q := (Sp.refl [r] w').set r 1 (by simp) wv'
  have hT : ∀ t, t = r ∨ t = gs → t ∉ wv.ownBlock.toList := fun t ht hm => by
    obtain ⟨h1, h2⟩ := h.n2 t (by simpa using hm)
    rcases ht with rfl | rfl
    · exact h1 rfl
    · exact h2 rfl
  have hR := hT r (.inl rfl)
  have hG := hT gs (.inr rfl)
  have hl := Nat.lt_of_lt_of_le h.hr k.size
  have h1 : gs ∉ [r] := by simpa using h.n1
  exact ⟨Nat.lt_of_lt_of_le hl q.size, Nat.lt_of_lt_of_le (Nat.lt_of_lt_of_le h.hg k.size) q.size, by rw [cell_off _ _ _ _ _ (by omega)]; exact k.held h.c0 hR, World.cell?_setCell_same _ _ _ (k.held h.c1 hR), by rw [cell_off _ _ _ _ _ (by omega)]; exact k.held h.c2 hR, fun i hi => by rw [cell_off _ _ _ _ _ (by omega)]; exact k.held (h.cn i hi) hR,
    fun o => (World.frozen?_setCell _ _ _ _).trans ((k.frozen h.hr hR o).trans (h.z o)), fun i hi => q.held (k.held (h.s i hi) hG) h1, fun i => (q.frozen (Nat.lt_of_lt_of_le h.hg k.size) h1 i).trans ((k.frozen h.hg hG i).trans (h.sz i)), q.own hq (fun g hg => by simpa using (hn g hg).1), h.k1, h.k2, h.n1, hn, ⟨h.fine.n1, h.fine.n2, h.fine.nn, h.fine.bn, h.fine.bl, hz⟩⟩
/-- another sector. -/
theorem RefIn.sector {w : World} {r gs cap : Nat} {wv : Value} {S : MS} (h : RefIn w r gs cap wv S) (i : Nat) (hi : i < S.las.length) (t : ByteArray) (ht : t.size = 64) : RefIn (w.setCell ⟨gs, i, none⟩ (.string t)) r gs cap wv ⟨S.now, S.las.set i t, S.row, S.dead, S.c⟩ := by
  have k := (Sp.refl [gs] w).set gs i (by simp) (.string t)
  have h1 : r ∉ [gs] := by simpa using h.n1.symm
  have hl : (S.las.set i t).length = S.las.length := List.length_set
  refine ⟨Nat.lt_of_lt_of_le h.hr k.size, Nat.lt_of_lt_of_le h.hg k.size, by show _ = some (Value.slice _ (S.las.set i t).length cap); rw [hl]; exact k.held h.c0 h1, k.held h.c1 h1, k.held h.c2 h1, fun j hj => k.held (h.cn j hj) h1, fun o => (k.frozen h.hr h1 o).trans (h.z o), fun j hj => ?_, fun j => (World.frozen?_setCell _ _ _ _).trans (h.sz j), k.own h.q (fun g hg => by simpa using (h.n2 g hg).2), by show (S.las.set i t).length ≤ cap; rw [hl]; exact h.k1, h.k2, h.n1, h.n2,
    ⟨by show 1 ≤ (S.las.set i t).length; rw [hl]; exact h.fine.n1, by show (S.las.set i t).length ≤ 256; rw [hl]; exact h.fine.n2, by show S.now.length = (S.las.set i t).length; rw [hl]; exact h.fine.nn, h.fine.bn, set_all h.fine.bl i t ht, fun p hp => ⟨by show p.1 < (S.las.set i t).length; rw [hl]; exact (h.fine.br p hp).1, (h.fine.br p hp).2⟩⟩⟩
  rw [show (⟨S.now, S.las.set i t, S.row, S.dead, S.c⟩ : MS).las = S.las.set i t from rfl, hl] at hj
  show _ = some (Value.string ((S.las.set i t).getD j noS))
  by_cases e : i = j
  · subst e; rw [getD_set_eq hj, World.cell?_setCell_same _ _ _ (h.s i hj)]
  · rw [getD_set_ne e, cell_off _ _ _ _ _ (fun e' => e e'.symm)]; exact h.s j hj
/-- behind a call. -/
def Rd (w w' : World) (r gs : Nat) (wv : Value) (S : MS) : Prop := ∃ gs' cap' wv', RefIn w' r gs' cap' wv' S ∧ Sp (rblk r gs wv) w w' ∧ Nw w (rblk r gs wv) (rblk r gs' wv')
theorem Sp.rr {w w' : World} {r gs : Nat} {wv : Value} (h : Sp [r] w w') : Sp (rblk r gs wv) w w' := h.mono (fun t ht => by simp at ht; subst ht; simp [rblk])
theorem Sp.rg {w w' : World} {r gs : Nat} {wv : Value} (h : Sp [gs] w w') : Sp (rblk r gs wv) w w' := h.mono (fun t ht => by simp at ht; subst ht; simp [rblk])
theorem Sp.rq {w w' : World} {r gs : Nat} {wv : Value} (h : Sp wv.ownBlock.toList w w') : Sp (rblk r gs wv) w w' := h.mono (fun t ht => by simp [rblk]; exact .inr (.inr (by simpa using ht)))
theorem nw_rnone (w : World) (r gs : Nat) (wv : Value) : Nw w (rblk r gs wv) (rblk r gs (.slice none 0 0)) := fun t ht => .inl (by
  simp [rblk, Value.ownBlock] at ht
  rcases ht with rfl | rfl <;> simp [rblk])

set_option maxRecDepth 100000 in
theorem may_any {w : World} {r gs cap : Nat} {wv : Value} {S : MS} (h : RefIn w r gs cap wv S) (k : Int) : Calls Try.prog 80 #[.pointer (some ⟨r, 0, none⟩), .int .i64 k] w fun e w' => e = .returned (.int .i64 (rcE S k)) ∧ w' = w := by
  have c0 := h.c0
  have c2 := h.c2
  have n2 := h.fine.n2
  obtain ⟨n, hn⟩ : ∃ n, n = S.las.length := ⟨_, rfl⟩
  rw [← hn] at c0 n2
  unfold rcE
  rw [← hn]
  obtain ⟨d, hd⟩ : ∃ d, d = S.dead := ⟨_, rfl⟩
  rw [← hd] at c2 ⊢
  clear hn hd h
  cases d with
  | true =>
    rw [if_pos rfl]
    go_enter Try.func80, Try.ntmps80
    go_wp2
    go_ret
    exact ⟨rfl, rfl⟩
  | false =>
    rw [if_neg (by simp)]
    by_cases h0 : 0 ≤ k
    · by_cases h1 : k < n
      · rw [if_pos ⟨h0, h1⟩]
        go_enter Try.func80, Try.ntmps80
        go_wp2
        go_ret
        exact ⟨rfl, rfl⟩
      · rw [if_neg (fun h => h1 h.2)]
        go_enter Try.func80, Try.ntmps80
        go_wp2
        go_ret
        exact ⟨rfl, rfl⟩
    · rw [if_neg (fun h => h0 h.1)]
      go_enter Try.func80, Try.ntmps80
      go_wp2
      go_ret
      exact ⟨rfl, rfl⟩
theorem rfail_any {w : World} {r gs cap : Nat} {wv : Value} {S : MS} (h : RefIn w r gs cap wv S) : Calls Try.prog 35 #[.pointer (some ⟨r, 0, none⟩)] w fun e w' => e = .returned (.tuple #[]) ∧ Rd w w' r gs wv (fa S) := by
  have c1 := h.c1
  have c2 := h.c2
  have z1 := h.z 1
  have z2 := h.z 2
  have h3 := (h.death true).row (Sp.refl _ _) (.slice none 0 0) [] (World.ownsRow_nil _ _ _ _) (fun g hg => by cases hg) (fun p hp => by cases hp)
  have k3 : Sp [r] w ((w.setCell ⟨r, 2, none⟩ (.bool true)).setCell ⟨r, 1, none⟩ (.slice none 0 0)) := ((Sp.refl [r] w).set r 2 (by simp) _).set r 1 (by simp) _
  clear h
  go_enter Try.func35, Try.ntmps35
  go_wp2
  go_end0
  exact ⟨rfl, _, _, _, h3, k3.rr, nw_rnone _ _ _ _⟩

end Go.Proofs.Ytmklkdopmemfaaa
