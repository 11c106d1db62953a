/-
  A turn in memory (TB, TX), and contracts of New, take, Has, Len, Full. Conditions: that the object lies in memory as TX says.
-/
import Derived.Test.YtncdidklgpmefaaDoorTuRow
namespace Go.Proofs.YtncdidklgpmefaaDoor
open Go.RowKit Plain
set_option linter.unusedVariables false

/-- a turn in memory: its map in block mb, its rows vp, vd. -/
structure TB (w0 w : World) (a mb : Nat) (vp vd : Value) (S : TS) : Prop where
  h : w.heap[a]? = some (.cells #[vp, vd, .int .i64 S.M, .int .i64 S.Z, .map (some mb)] 99 (0, 0))
  p : OwnI w w0.heap.size vp S.P
  d : OwnI w w0.heap.size vd S.D
  k : Pn w mb S.n S.K
  ba : w0.heap.size ≤ a
  bm : w0.heap.size ≤ mb
  am : a ≠ mb
  pa : vp.ownBlock ≠ some a
  pm : vp.ownBlock ≠ some mb
  da : vd.ownBlock ≠ some a
  dm : vd.ownBlock ≠ some mb
  pd : ∀ g, vp.ownBlock = some g → vd.ownBlock ≠ some g
  sz : w0.heap.size ≤ w.heap.size
def bl (a mb : Nat) (vp vd : Value) : List Nat := a :: mb :: (vp.ownBlock.toList ++ vd.ownBlock.toList)
def TX (w0 w : World) (a : Nat) (T : List Nat) (S : TS) : Prop := ∃ mb vp vd, T = bl a mb vp vd ∧ TB w0 w a mb vp vd S
theorem bl_p {a mb : Nat} {vp vd : Value} {t : Nat} (h : t ∈ vp.ownBlock.toList) : t ∈ bl a mb vp vd := List.mem_cons_of_mem _ (List.mem_cons_of_mem _ (List.mem_append_left _ h))
theorem bl_d {a mb : Nat} {vp vd : Value} {t : Nat} (h : t ∈ vd.ownBlock.toList) : t ∈ bl a mb vp vd := List.mem_cons_of_mem _ (List.mem_cons_of_mem _ (List.mem_append_right _ h))
theorem bl_a {a mb : Nat} {vp vd : Value} : a ∈ bl a mb vp vd := List.mem_cons_self
theorem bl_m {a mb : Nat} {vp vd : Value} : mb ∈ bl a mb vp vd := List.mem_cons_of_mem _ List.mem_cons_self
theorem bl_in {a mb : Nat} {vp vd : Value} {t : Nat} (h : t ∈ bl a mb vp vd) : t = a ∨ t = mb ∨ vp.ownBlock = some t ∨ vd.ownBlock = some t := by
  rcases List.mem_cons.1 h with h | h
  · exact .inl h
  · rcases List.mem_cons.1 h with h | h
    · exact .inr (.inl h)
    · rcases List.mem_append.1 h with h | h
      · exact .inr (.inr (.inl (by simpa using h)))
      · exact .inr (.inr (.inr (by simpa using h)))
section
variable {w0 w w' w2 : World} {a mb : Nat} {vp vd v' : Value} {S : TS} {l : List Int}
theorem TB.low (h : TB w0 w a mb vp vd S) : ∀ t ∈ bl a mb vp vd, t < w.heap.size ∧ w0.heap.size ≤ t := by
  intro t ht
  rcases bl_in ht with rfl | rfl | ht | ht
  · exact ⟨heap_lt h.h, h.ba⟩
  · exact ⟨h.k.lt, h.bm⟩
  · have := h.p.lt t ht; omega
  · have := h.d.lt t ht; omega
theorem TB.sp {T : List Nat} (h : TB w0 w a mb vp vd S) (k : Sp T w w') (hd : ∀ t ∈ bl a mb vp vd, t ∉ T) : TB w0 w' a mb vp vd S :=
  ⟨(k.block a (heap_lt h.h) (hd a bl_a)).trans h.h, h.p.sp k (fun g hg => hd g (bl_p (by simp [hg]))), h.d.sp k (fun g hg => hd g (bl_d (by simp [hg]))), h.k.blk (k.block mb h.k.lt (hd mb bl_m)), h.ba, h.bm, h.am, h.pa, h.pm, h.da, h.dm, h.pd, Nat.le_trans h.sz k.size⟩
theorem OL.tx : OL TX where
  low := by rintro w0 w a T S ⟨mb, vp, vd, rfl, h⟩ t ht; exact (h.low t ht).1
  new := by rintro w0 w a T S ⟨mb, vp, vd, rfl, h⟩ t ht; exact (h.low t ht).2
  sp := by rintro w0 w w' a T T' S ⟨mb, vp, vd, rfl, h⟩ k hd; exact ⟨mb, vp, vd, rfl, h.sp k hd⟩
theorem TB.kept (h : TB w0 w a mb vp vd S) (k : Kp w w') : TB w0 w' a mb vp vd S := h.sp (k.sp []) (fun _ _ h => by cases h)
theorem TX.kept {T : List Nat} (h : TX w0 w a T S) (k : Kp w w') : TX w0 w' a T S := OL.tx.sp h (k.sp []) (fun _ _ h => by cases h)
/-- another plain row laid into the object. -/
theorem TB.setP (h : TB w0 w a mb vp vd S) (k : Sp vp.ownBlock.toList w w2) (ho : OwnI w2 w0.heap.size v' l) (hn : v'.ownBlock = vp.ownBlock ∨ ∀ N, v'.ownBlock = some N → w.heap.size ≤ N) :
    Nz TX w0 w (w2.setCell ⟨a, 0, none⟩ v') a (bl a mb vp vd) { S with P := l } := by
  have ha := heap_lt h.h
  have h1' := (k.block a ha (fun e => h.pa (by simpa using e))).trans h.h
  have hl := h.k.lt
  have hva : v'.ownBlock ≠ some a := by
    rcases hn with hn | hn
    · rw [hn]; exact h.pa
    · intro e; have := hn a e; omega
  have hvm : v'.ownBlock ≠ some mb := by
    rcases hn with hn | hn
    · rw [hn]; exact h.pm
    · intro e; have := hn mb e; omega
  have hvd : ∀ g, v'.ownBlock = some g → vd.ownBlock ≠ some g := fun g hg => by
    rcases hn with hn | hn
    · exact h.pd g (by rw [← hn]; exact hg)
    · intro e; have := hn g hg; have := (h.d.lt g e).2; omega
  have k2 : Sp [a] w2 (w2.setCell ⟨a, 0, none⟩ v') := (Sp.refl _ _).set a _ (by simp) _
  have hk2 : Pn w2 mb S.n S.K := h.k.blk (k.block mb hl (fun e => h.pm (by simpa using e)))
  have hd2 : OwnI w2 w0.heap.size vd S.D := h.d.sp k (fun g hg e => h.pd g (by simpa using e) hg)
  have hl2 := hk2.lt
  refine ⟨bl a mb v' vd, ⟨mb, v', vd, rfl, heap_set h1' 0 _, ho.sp k2 (fun q hq e => hva (by simp at e; rw [← e]; exact hq)), hd2.sp k2 (fun q hq e => h.da (by simp at e; rw [← e]; exact hq)), hk2.blk (k2.block mb hl2 (by simpa using h.am.symm)), h.ba, h.bm, h.am, hva, hvm, h.da, h.dm, hvd, Nat.le_trans h.sz (Nat.le_trans k.size k2.size)⟩, ?_, ?_⟩
  · exact (k.mono (fun t ht => bl_p ht)).trans (k2.mono (fun t ht => by simp at ht; subst ht; exact bl_a))
  · intro t ht
    rcases bl_in ht with rfl | rfl | ht | ht
    · exact .inl bl_a
    · exact .inl bl_m
    · rcases hn with hn | hn
      · rw [hn] at ht; exact .inl (bl_p (by simp [ht]))
      · exact .inr (hn t ht)
    · exact .inl (bl_d (by simp [ht]))
/-- another dear row laid into the object. -/
theorem TB.setD (h : TB w0 w a mb vp vd S) (k : Sp vd.ownBlock.toList w w2) (ho : OwnI w2 w0.heap.size v' l) (hn : v'.ownBlock = vd.ownBlock ∨ ∀ N, v'.ownBlock = some N → w.heap.size ≤ N) :
    Nz TX w0 w (w2.setCell ⟨a, 1, none⟩ v') a (bl a mb vp vd) { S with D := l } := by
  have ha := heap_lt h.h
  have h1' := (k.block a ha (fun e => h.da (by simpa using e))).trans h.h
  have hl := h.k.lt
  have hva : v'.ownBlock ≠ some a := by
    rcases hn with hn | hn
    · rw [hn]; exact h.da
    · intro e; have := hn a e; omega
  have hvm : v'.ownBlock ≠ some mb := by
    rcases hn with hn | hn
    · rw [hn]; exact h.dm
    · intro e; have := hn mb e; omega
  have hvd : ∀ g, vp.ownBlock = some g → v'.ownBlock ≠ some g := fun g hg => by
    rcases hn with hn | hn
    · rw [hn]; exact h.pd g hg
    · intro e; have := hn g e; have := (h.p.lt g hg).2; omega
  have k2 : Sp [a] w2 (w2.setCell ⟨a, 1, none⟩ v') := (Sp.refl _ _).set a _ (by simp) _
  have hk2 : Pn w2 mb S.n S.K := h.k.blk (k.block mb hl (fun e => h.dm (by simpa using e)))
  have hd2 : OwnI w2 w0.heap.size vp S.P := h.p.sp k (fun g hg e => h.pd g hg (by simpa using e))
  have hl2 := hk2.lt
  refine ⟨bl a mb vp v', ⟨mb, vp, v', rfl, heap_set h1' 1 _, hd2.sp k2 (fun q hq e => h.pa (by simp at e; rw [← e]; exact hq)), ho.sp k2 (fun q hq e => hva (by simp at e; rw [← e]; exact hq)), hk2.blk (k2.block mb hl2 (by simpa using h.am.symm)), h.ba, h.bm, h.am, h.pa, h.pm, hva, hvm, hvd, Nat.le_trans h.sz (Nat.le_trans k.size k2.size)⟩, ?_, ?_⟩
  · exact (k.mono (fun t ht => bl_d ht)).trans (k2.mono (fun t ht => by simp at ht; subst ht; exact bl_a))
  · intro t ht
    rcases bl_in ht with rfl | rfl | ht | ht
    · exact .inl bl_a
    · exact .inl bl_m
    · exact .inl (bl_p (by simp [ht]))
    · rcases hn with hn | hn
      · rw [hn] at ht; exact .inl (bl_d (by simp [ht]))
      · exact .inr (hn t ht)
/-- another set of pinned keys. -/
theorem TB.setM {n : Nat} {K : Int → Bool} (h : TB w0 w a mb vp vd S) (k : Sp [mb] w w') (hk : Pn w' mb n K) : Nz TX w0 w w' a (bl a mb vp vd) { S with K := K, n := n } :=
  ⟨bl a mb vp vd, ⟨mb, vp, vd, rfl, (k.block a (heap_lt h.h) (by simpa using h.am)).trans h.h, h.p.sp k (fun g hg e => h.pm (by simp at e; rw [← e]; exact hg)), h.d.sp k (fun g hg e => h.dm (by simp at e; rw [← e]; exact hg)), hk, h.ba, h.bm, h.am, h.pa, h.pm, h.da, h.dm, h.pd, Nat.le_trans h.sz k.size⟩, k.mono (fun t ht => by simp at ht; subst ht; exact bl_m), Nw.refl _ _⟩
end

def newOk (m d : Int) : Prop := 1 ≤ m ∧ m ≤ 64 ∧ 0 ≤ d ∧ d < m
set_option maxRecDepth 100000 in
set_option maxHeartbeats 2000000 in
theorem new_ok (w0 : World) (m d : Int) (h : newOk m d) (w : World) (k0 : w0.heap.size ≤ w.heap.size) : Calls Tryd.prog 22 #[.int .i64 m, .int .i64 d] w fun e w' => ∃ a T, e = .returned (.tuple #[.pointer (some ⟨a, 0, none⟩), .int .i64 0]) ∧ TX w0 w' a T (newT m d) ∧ Kp w w' ∧ ∀ t ∈ T, w.heap.size ≤ t := by
  obtain ⟨h1, h2, h3, h4⟩ := h
  have d1 : decide (m < 1) = false := by simp; omega
  have d2 : decide (64 < m) = false := by simp; omega
  have d3 : decide (d < 0) = false := by simp; omega
  have d4 : decide (m ≤ d) = false := by simp; omega
  obtain ⟨W1, hW1⟩ : ∃ W, W = w.alloc (.map #[] 0) := ⟨_, rfl⟩
  obtain ⟨H, hH⟩ : ∃ H, H = w.heap.size := ⟨_, rfl⟩
  have k1 : Kp w W1 := by rw [hW1]; exact (Kp.refl w).alloc _
  have hm : Pn W1 H 0 (fun _ => false) := by rw [hW1, hH]; exact Pn.made w
  have hs : W1.heap.size = H + 1 := by rw [hW1, hH]; simp
  have HH : Hid (W1 = w.alloc (.map #[] 0) ∧ H = w.heap.size) := ⟨hW1, hH⟩
  have HE := hid (And.intro k1 (And.intro hm hs))
  have hmm : ∀ (t : TypeId) (W : World), (Instr.makeMap t none).run Tryd.prog W = .ok (.map (some W.heap.size)) (W.alloc (.map #[] 0)) := fun _ _ => rfl
  clear hW1 hH k1 hm hs h1 h2 h3 h4
  go_enter Tryd.func22, Tryd.ntmps22
  go_wp2
  go_ret2
  have e1 := HH.out.2
  have e2 := HE.out.2.2
  have k2 : Kp W1 (W1.alloc (.cells #[.slice none 0 0, .slice none 0 0, .int .i64 m, .int .i64 d, .map (some H)] 99)) := (Kp.refl W1).alloc _
  have e3 : w.alloc (.map #[] 0) = W1 := HH.out.1.symm
  refine ⟨H + 1, bl (H + 1) H (.slice none 0 0) (.slice none 0 0), ?_, ⟨H, .slice none 0 0, .slice none 0 0, rfl, ?_⟩, ?_, fun t ht => ?_⟩
  · rw [e1]; simp
  · rw [← e1]
    simp only [e3]
    refine ⟨?_, OwnI.nil _ _, OwnI.nil _ _, HE.out.2.1.blk (k2.block H (by omega)), by omega, by omega, by omega, by simp [Value.ownBlock], by simp [Value.ownBlock], by simp [Value.ownBlock], by simp [Value.ownBlock], by simp [Value.ownBlock], by have := k2.size; omega⟩
    have := new_obj W1 #[.slice none 0 0, .slice none 0 0, .int .i64 m, .int .i64 d, .map (some H)] 99
    rw [e2] at this
    exact this
  · rw [← e1]
    simp only [e3]
    exact HE.out.1.trans k2
  · simp [bl, Value.ownBlock] at ht
    omega
theorem new_no (m d : Int) (h : ¬ newOk m d) (w : World) : Calls Tryd.prog 22 #[.int .i64 m, .int .i64 d] w fun e w' => e = .returned (.tuple #[.pointer none, .int .i64 2]) ∧ Kp w w' := by
  by_cases h1 : m < 1
  · have d1 : decide (m < 1) = true := by simp [h1]
    go_enter Tryd.func22, Tryd.ntmps22
    go_wp2
    go_ret2
    exact ⟨rfl, Kp.refl w⟩
  · have d1 : decide (m < 1) = false := by simp; omega
    by_cases h2 : 64 < m
    · have d2 : decide (64 < m) = true := by simp [h2]
      go_enter Tryd.func22, Tryd.ntmps22
      go_wp2
      go_ret2
      exact ⟨rfl, Kp.refl w⟩
    · have d2 : decide (64 < m) = false := by simp; omega
      by_cases h3 : d < 0
      · have d3 : decide (d < 0) = true := by simp [h3]
        go_enter Tryd.func22, Tryd.ntmps22
        go_wp2
        go_ret2
        exact ⟨rfl, Kp.refl w⟩
      · have d3 : decide (d < 0) = false := by simp; omega
        have d4 : decide (m ≤ d) = true := by unfold newOk at h; simp; omega
        clear h
        go_enter Tryd.func22, Tryd.ntmps22
        go_wp2
        go_ret2
        exact ⟨rfl, Kp.refl w⟩
/-- the object's cells. -/
theorem TB.cells {w0 w : World} {a mb : Nat} {vp vd : Value} {S : TS} (h : TB w0 w a mb vp vd S) : w.cell? ⟨a, 0, none⟩ = some vp ∧ w.cell? ⟨a, 1, none⟩ = some vd ∧ w.cell? ⟨a, 2, none⟩ = some (.int .i64 S.M) ∧ w.cell? ⟨a, 3, none⟩ = some (.int .i64 S.Z) ∧ w.cell? ⟨a, 4, none⟩ = some (.map (some mb)) :=
  ⟨cell_of h.h 0, cell_of h.h 1, cell_of h.h 2, cell_of h.h 3, cell_of h.h 4⟩
theorem OwnI.len {w : World} {base n c : Nat} {p : Option Addr} {l : List Int} (h : OwnI w base (.slice p n c) l) : n = l.length := by
  obtain ⟨_, _, _, e, _⟩ := h.ints
  simp at e
  exact e.2.1
theorem OwnI.shape {w : World} {base : Nat} {v : Value} {l : List Int} (h : OwnI w base v l) : ∃ p c, v = .slice p l.length c := by
  obtain ⟨_, _, _, e, _⟩ := h.ints
  exact ⟨_, _, e⟩
set_option maxRecDepth 100000 in
theorem len_any {w0 w : World} {a : Nat} {T : List Nat} {S : TS} (h : TX w0 w a T S) (hg : Gd S) : Calls Tryd.prog 77 #[.pointer (some ⟨a, 0, none⟩)] w fun e w' => e = .returned (.tuple #[.int .i64 ((S.P.length : Int) + (S.D.length : Int)), .int .i64 (S.D.length : Int)]) ∧ Kp w w' := by
  obtain ⟨mb, vp, vd, rfl, h⟩ := h
  obtain ⟨c0, c1, _⟩ := h.cells
  obtain ⟨pp, cp, rfl⟩ := h.p.shape
  obtain ⟨pd, cd, rfl⟩ := h.d.shape
  have h1 := hg.len
  have h2 := hg.m2
  obtain ⟨n, hn⟩ : ∃ n, n = S.P.length := ⟨_, rfl⟩
  obtain ⟨m, hm⟩ : ∃ n, n = S.D.length := ⟨_, rfl⟩
  rw [← hn] at c0 h1 ⊢
  rw [← hm] at c1 h1 ⊢
  have h3 : n ≤ 64 := by omega
  have h4 : m ≤ 64 := by omega
  clear h hg h1 h2 hn hm
  go_enter Tryd.func77, Tryd.ntmps77
  go_wp2_with fail
  go_quiet (fail)
  go_wp2
  go_ret2
  exact ⟨rfl, (Kp.refl w).drewN _⟩
set_option maxRecDepth 100000 in
theorem full_any {w0 w : World} {a : Nat} {T : List Nat} {S : TS} (h : TX w0 w a T S) (hg : Gd S) : Calls Tryd.prog 67 #[.pointer (some ⟨a, 0, none⟩)] w fun e w' => e = .returned (.bool (decide (S.M ≤ (S.P.length : Int) + (S.D.length : Int)))) ∧ Kp w w' := by
  have hL := len_any h hg
  obtain ⟨mb, vp, vd, rfl, h⟩ := h
  obtain ⟨_, _, c2, _⟩ := h.cells
  obtain ⟨n, hn⟩ : ∃ n, n = (S.P.length : Int) + (S.D.length : Int) := ⟨_, rfl⟩
  obtain ⟨m, hm⟩ : ∃ m, m = S.M := ⟨_, rfl⟩
  rw [← hn] at hL ⊢
  rw [← hm] at c2 ⊢
  clear h hn hm
  go_enter Tryd.func67, Tryd.ntmps67
  go_wp2_with fail
  refine hL.mono ?_; rintro e w1 ⟨rfl, k1⟩
  have c2 := k1.held c2
  clear hL
  go_wp2
  go_ret
  exact ⟨rfl, k1⟩
set_option maxRecDepth 100000 in
theorem has_any {w0 w : World} {a : Nat} {T : List Nat} {S : TS} (h : TX w0 w a T S) (hg : Gd S) (k : Int) : Calls Tryd.prog 55 #[.pointer (some ⟨a, 0, none⟩), .int .i64 k] w fun e w' => e = .returned (.tuple #[.bool (inT S k), .bool (decide (k ∈ S.D))]) ∧ w' = w := by
  obtain ⟨mb, vp, vd, rfl, h⟩ := h
  obtain ⟨c0, c1, _⟩ := h.cells
  have h1 := hg.len
  have h2 := hg.m2
  have hD := contains_any vd S.D k w h.d.ints (by omega)
  have hP := contains_any vp S.P k w h.p.ints (by omega)
  obtain ⟨pp, cp, rfl⟩ := h.p.shape
  obtain ⟨pd, cd, rfl⟩ := h.d.shape
  have HI : Hid (inT S k = (decide (k ∈ S.D) || decide (k ∈ S.P))) := by
    show inT S k = _
    unfold inT
    by_cases e1 : k ∈ S.D <;> by_cases e2 : k ∈ S.P <;> simp [e1, e2]
  rw [HI.out]
  clear HI h hg h1 h2
  by_cases hd : k ∈ S.D
  · rw [decide_eq_true hd] at hD ⊢
    clear hd
    go_enter Tryd.func55, Tryd.ntmps55
    go_wp2_with fail
    refine hD.mono ?_; rintro e w1 ⟨rfl, rfl⟩
    clear hD hP
    go_wp2
    go_ret2
    exact ⟨by simp, rfl⟩
  · rw [decide_eq_false hd] at hD ⊢
    clear hd
    go_enter Tryd.func55, Tryd.ntmps55
    go_wp2_with fail
    refine hD.mono ?_; rintro e w1 ⟨rfl, rfl⟩
    clear hD
    go_wp2_with fail
    refine hP.mono ?_; rintro e w1 ⟨rfl, rfl⟩
    clear hP
    go_wp2
    go_ret2
    exact ⟨by simp, rfl⟩

end Go.Proofs.YtncdidklgpmefaaDoor
