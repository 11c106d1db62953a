/-
  The document's queue in memory (RX), and contracts of its New, Find and Put. Conditions: that the object lies in memory as RX says.
-/
import Derived.Test.YtdfdoinhkjoalaaQuLaw
import Derived.Deep.RegionLaw
import Derived.Deep.RegionHeld3
namespace Go.Proofs.Ytdfdoinhkjoalaa
open Go.RowKit Plain
set_option linter.unusedVariables false

/-- the document's queue in memory: items as they came. -/
def RX (w0 w : World) (a : Nat) (T : List Nat) (S : QS) : Prop := ∃ v, T = a :: v.ownBlock.toList ∧ w.heap[a]? = some (.cells #[.int .i64 S.m, v, .int .i64 S.c] 46 (0, 0)) ∧ w0.heap.size ≤ a ∧ Oi w w0.heap.size 34 v S.L ∧ v.ownBlock ≠ some a ∧ w0.heap.size ≤ w.heap.size
theorem OL.rx : OL RX where
  low := by
    rintro w0 w a T S ⟨v, rfl, h1, h2, h3, h4, h5⟩ t ht
    rcases List.mem_cons.1 ht with rfl | ht
    · exact heap_lt h1
    · exact (h3.lt t (by simpa using ht)).2
  new := by
    rintro w0 w a T S ⟨v, rfl, h1, h2, h3, h4, h5⟩ t ht
    rcases List.mem_cons.1 ht with rfl | ht
    · exact h2
    · exact (h3.lt t (by simpa using ht)).1
  sp := by
    rintro w0 w w' a T T' S ⟨v, rfl, h1, h2, h3, h4, h5⟩ k hd
    exact ⟨v, rfl, (k.block a (heap_lt h1) (hd a (by simp))).trans h1, h2, h3.sp k (fun g hg => hd g (by simp [hg])), h4, Nat.le_trans h5 k.size⟩
theorem RX.kept {w0 w w' : World} {a : Nat} {T : List Nat} {S : QS} (h : RX w0 w a T S) (k : Kp w w') : RX w0 w' a T S := OL.rx.sp h (k.sp []) (fun _ _ h => by cases h)
set_option maxRecDepth 100000 in
theorem rnew_any (w0 : World) (m : Int) (w : World) (k0 : w0.heap.size ≤ w.heap.size) : Calls Try.prog 9 #[.int .i64 m] w fun e w' => ∃ a T, e = .returned (.pointer (some ⟨a, 0, none⟩)) ∧ RX w0 w' a T ⟨[], qm m, 0⟩ ∧ Kp w w' ∧ (∀ t ∈ T, w.heap.size ≤ t) := by
  have hend : ∀ n : Int, n = (qm m : Int) → RX w0 (w.alloc (.cells #[.int .i64 n, .slice none 0 0, .int .i64 0] 46)) w.heap.size [w.heap.size] ⟨[], qm m, 0⟩ := fun n hn => by
    refine ⟨.slice none 0 0, rfl, ?_, k0, Oi.nil _ _ _, by simp [Value.ownBlock], by simp; omega⟩
    rw [hn]
    exact new_box w _ _ _ _
  by_cases h1 : m < 1
  · go_enter Try.func9, Try.ntmps9
    go_wp2
    go_ret
    first
      | exact ⟨w.heap.size, [w.heap.size], rfl, hend 1 (by rw [qm_is]; omega), (Kp.refl w).alloc _, fun t ht => by simp at ht; omega⟩
      | exact ⟨w.heap.size, rfl, [w.heap.size], hend 1 (by rw [qm_is]; omega), (Kp.refl w).alloc _, fun t ht => by simp at ht; omega⟩
  · by_cases h2 : 256 < m
    · go_enter Try.func9, Try.ntmps9
      go_wp2
      go_ret
      first
      | exact ⟨w.heap.size, [w.heap.size], rfl, hend 256 (by rw [qm_is]; omega), (Kp.refl w).alloc _, fun t ht => by simp at ht; omega⟩
      | exact ⟨w.heap.size, rfl, [w.heap.size], hend 256 (by rw [qm_is]; omega), (Kp.refl w).alloc _, fun t ht => by simp at ht; omega⟩
    · go_enter Try.func9, Try.ntmps9
      go_wp2
      go_ret
      first
      | exact ⟨w.heap.size, [w.heap.size], rfl, hend m (by rw [qm_is]; omega), (Kp.refl w).alloc _, fun t ht => by simp at ht; omega⟩
      | exact ⟨w.heap.size, rfl, [w.heap.size], hend m (by rw [qm_is]; omega), (Kp.refl w).alloc _, fun t ht => by simp at ht; omega⟩
/-- the object's cells. -/
theorem RX.cells {w0 w : World} {a : Nat} {T : List Nat} {S : QS} (h : RX w0 w a T S) : ∃ p g cap, (0 < S.L.length → p = some ⟨g, 0, none⟩ ∧ T = [a, g] ∧ g ≠ a ∧ ∀ j, w.frozen? ⟨g, j, none⟩ = false) ∧ S.L.length ≤ cap ∧ cap ≤ 9223372036854775807 ∧ w.cell? ⟨a, 0, none⟩ = some (.int .i64 S.m) ∧ w.cell? ⟨a, 1, none⟩ = some (.slice p S.L.length cap) ∧ w.cell? ⟨a, 2, none⟩ = some (.int .i64 S.c) ∧ (∀ j, w.frozen? ⟨a, j, none⟩ = false) ∧ ∀ i, i < S.L.length → w.cell? ⟨g, i * 3, none⟩ = some (.int .i64 (S.L.getD i iz).b) ∧ w.cell? ⟨g, i * 3 + 1, none⟩ = some (.string (S.L.getD i iz).d) ∧ w.cell? ⟨g, i * 3 + 2, none⟩ = some (.int .i64 (S.L.getD i iz).g) := by
  obtain ⟨v, rfl, h1, h2, h3, h4, h5⟩ := h
  rcases h3.row with ⟨rfl, hl0⟩ | ⟨g, cap, cs, rfl, _, R, hle, hcm, ht⟩
  · rw [hl0]
    exact ⟨none, 0, 0, fun h => absurd h (by simp), by simp, by omega, cell_of h1 0, cell_of h1 1, cell_of h1 2, frozen_of h1, fun i hi => absurd hi (by simp)⟩
  · refine ⟨some ⟨g, 0, none⟩, g, cap, fun _ => ⟨rfl, by simp [Value.ownBlock], fun e => h4 (by rw [← e]; rfl), R.frozen⟩, hle, by unfold maxLen at hcm; omega, cell_of h1 0, cell_of h1 1, cell_of h1 2, frozen_of h1, fun i hi => ?_⟩
    have hq := iv_at S.L i hi
    refine ⟨?_, ?_, ?_⟩
    · rw [World.ownsRow.cellAt h3 (i * 3) (by omega)]; exact hq.1
    · rw [World.ownsRow.cellAt h3 (i * 3 + 1) (by omega)]; exact hq.2.1
    · rw [World.ownsRow.cellAt h3 (i * 3 + 2) (by omega)]; exact hq.2.2
/-- where the first item of a block stands. -/
def Fi (l : List It) (b : Int) (z : Int) : Prop := (z = -1 ∧ ∀ x ∈ l, x.b ≠ b) ∨ ∃ A y B, l = A ++ y :: B ∧ z = (A.length : Int) ∧ y.b = b ∧ ∀ x ∈ A, x.b ≠ b
theorem take_it {l : List It} {i : Nat} (h : i < l.length) : l.take (i + 1) = l.take i ++ [l.getD i iz] := by
  rw [List.take_add_one, List.getElem?_eq_getElem h, List.getD_eq_getElem?_getD, List.getElem?_eq_getElem h]
  rfl
set_option maxRecDepth 100000 in
set_option maxHeartbeats 2000000 in
theorem rfind_any {w0 w : World} {a : Nat} {T : List Nat} {S : QS} (h : RX w0 w a T S) (hl : S.L.length ≤ 1000) (b : Int) : Calls Try.prog 17 #[.pointer (some ⟨a, 0, none⟩), .int .i64 b] w fun e w' => ∃ z, e = .returned (.int .i64 z) ∧ Fi S.L b z ∧ Kp w w' := by
  obtain ⟨p, g, cap, hp, hle, hcp, c0, c1, c2, fa, hc⟩ := h.cells
  obtain ⟨l, hL⟩ : ∃ l, l = S.L := ⟨_, rfl⟩
  rw [← hL] at hp hle c1 hc hl ⊢
  obtain ⟨n, hn⟩ : ∃ n, n = l.length := ⟨_, rfl⟩
  rw [← hn] at hp hle c1 hc hl
  have HN : Hid (n = l.length) := hn
  have HC : Hid (∀ i, i < n → w.cell? ⟨g, i * 3, none⟩ = some (.int .i64 (l.getD i iz).b)) := fun i hi => (hc i hi).1
  have HP : Hid (0 < n → p = some ⟨g, 0, none⟩) := fun h => (hp h).1
  clear h hL hn hc hp c0 c2 fa
  go_enter Try.func17, Try.ntmps17
  go_wp2
  go_loopw [5] (fun q wr => ∃ i : Nat, q = .int .i64 i ∧ i ≤ n ∧ Hid (∀ x ∈ l.take i, x.b ≠ b) ∧ wr = w) (fun q _ => n - (intOf q).toNat)
  case atStart => exact ⟨0, rfl, by omega, (by simp : ∀ x ∈ l.take 0, x.b ≠ b), rfl⟩
  case round =>
    obtain ⟨i, rfl, hi, HI, hw⟩ := hrel
    rw [hw]
    clear hw
    by_cases hin : i < n
    · obtain rfl := HP.out (by omega)
      have d0 := HC.out i hin
      have hil : i < l.length := by have := HN.out; omega
      obtain ⟨y, hy⟩ : ∃ y, y = (l.getD i iz).b := ⟨_, rfl⟩
      rw [← hy] at d0
      have HY : Hid (y = (l.getD i iz).b) := hy
      have hi3 : (i : Int) < (n : Int) := by omega
      clear hy
      by_cases hyb : y = b
      · have hd2 : (y == b) = true := by simp [hyb]
        go_wp2
        go_ret
        refine ⟨_, rfl, .inr ⟨l.take i, l.getD i iz, l.drop (i + 1), it_at hil, ?_, by rw [← HY.out]; exact hyb, HI.out⟩, Kp.refl w⟩
        rw [List.length_take, Nat.min_eq_left (by omega)]
      · have hd2 : (y == b) = false := by simp [hyb]
        have HI2 : Hid (∀ x ∈ l.take (i + 1), x.b ≠ b) := by
          show ∀ x ∈ l.take (i + 1), x.b ≠ b
          intro x hx
          rw [take_it hil] at hx
          rcases List.mem_append.1 hx with hx | hx
          · exact HI.out x hx
          · simp at hx
            rw [hx]
            show (l.getD i iz).b ≠ b
            rw [← HY.out]; exact hyb
        go_wp2
        go_roundw
        case rel => exact ⟨i + 1, by go_num, by omega, HI2, trivial⟩
        case measure => simp [intOf]; omega
    · obtain rfl : i = n := by omega
      go_wp2
      go_ret
      exact ⟨_, rfl, .inl ⟨rfl, fun x hx => HI.out x (by rw [List.take_of_length_le (by have := HN.out; omega)]; exact hx)⟩, Kp.refl w⟩

/-! ### Put -/
def rpL (b : Int) (d : ByteArray) (c : Int) : List It → List It
  | [] => [⟨b, d, c⟩]
  | x :: l => if x.b = b then ⟨b, d, x.g⟩ :: l else x :: rpL b d c l
theorem rp_app (b : Int) (d : ByteArray) (c : Int) (B : List It) : ∀ (A : List It), (∀ x ∈ A, x.b ≠ b) → rpL b d c (A ++ B) = A ++ rpL b d c B
  | [], _ => rfl
  | x :: A, h => by
    rw [List.cons_append, rpL, if_neg (h x (by simp)), rp_app b d c B A (fun y hy => h y (by simp [hy]))]
    rfl
theorem rp_hit {A B : List It} {y : It} {b : Int} (d : ByteArray) (c : Int) (hA : ∀ x ∈ A, x.b ≠ b) (hy : y.b = b) : rpL b d c (A ++ y :: B) = A ++ ⟨b, d, y.g⟩ :: B := by
  rw [rp_app b d c _ A hA, rpL, if_pos hy]
theorem rp_miss {A : List It} {b : Int} (d : ByteArray) (c : Int) (hA : ∀ x ∈ A, x.b ≠ b) : rpL b d c A = A ++ [⟨b, d, c⟩] := by
  have := rp_app b d c [] A hA
  rwa [List.append_nil] at this
def rpS (S : QS) (b : Int) (d : ByteArray) : QS := if ptE S b d = 0 then ⟨rpL b d S.c S.L, S.m, S.c + 1⟩ else S
/-- an append of items as one step of a region that draws. -/
theorem run_append_it {w : World} (t ty : TypeId) (base : Nat) (e : TypeId) (he : Ely t e) (v : Value) (l : List It) (hown : Oi w base e v l) (vx : Value) (m : List It) (hm : ItIn w vx m)
    (hlen : l.length + m.length ≤ 1099511627776) (hbase : base ≤ w.heap.size) : ∃ v' w', (Builtin.append_ #[t, t] ty #[v, vx]).run Try.prog w = .ok v' w' ∧ Oi w' base e v' (l ++ m) ∧ w.grownBy w' v.ownBlock ∧ (v'.ownBlock = v.ownBlock ∨ v'.ownBlock = some w.heap.size) := by
  obtain ⟨i0, hi, hz0, hz1, hz2⟩ := info_parts he.i
  obtain ⟨ao, b, off, cap, rfl, hA⟩ := hm
  have hK : ∀ v' w', w'.ownsRow base e 3 v' (l.length + m.length) (iv l ++ iv m) → Oi w' base e v' (l ++ m) := fun v' w' hh => by
    unfold Oi
    rw [List.length_append, iv_app]
    exact hh
  cases ao with
  | some p =>
    obtain ⟨pb, po, pe⟩ := p
    obtain ⟨v', w', hr, h1, h2, _, h3⟩ := run_append_own_at (P := Try.prog) w base t ty e i0 itZ 3 32 he.u hi hz0 hz1 hz2 rfl (by decide) v l.length (iv l) hown ⟨pb, po, pe⟩ m.length cap (iv m) (iv_len m) (by
      intro j u hj
      have hj2 : j < m.length * 3 := by
        have := (List.getElem?_eq_some_iff.1 hj).1
        rwa [iv_len] at this
      have hp := hA.ha (by omega)
      cases hp
      rw [Addr.add_lit]
      exact hA.cells j u hj) (iv_one m) (by unfold maxLen; omega) (by omega) hbase
    exact ⟨v', w', hr, hK _ _ h1, h2, h3⟩
  | none =>
    obtain rfl := hA.hn rfl
    obtain rfl : m = [] := List.eq_nil_of_length_eq_zero (by have := hA.le; omega)
    exact ⟨v, w, run_append_owned_none w base t ty e i0 3 he.u hi v l.length (iv l) hown, by rw [List.append_nil]; exact hown, World.grownBy.refl _ _, .inl rfl⟩

theorem step_append_it {ops : Array Oper} {o : Oper} {a : Act} {w : World} {K : Act → World → Prop} {Q : Exit → Act → World → Prop} {E : Prop} (hgd : o.guard = none) (s x : Operand) (t : TypeId)
    (ho : o.op = .call { callee := .builtin .append, args := #[s, x], argTypes := #[t, t] })
    (base : Nat) (e : TypeId) (he : Ely t e) (v : Value) (l : List It) (hs : a.eval s = v) (hown : Oi w base e v l) (vx : Value) (m : List It) (hx : a.eval x = vx) (hm : ItIn w vx m)
    (hlen : l.length + m.length ≤ 1099511627776) (hbase : base ≤ w.heap.size)
    (cont : ∀ v' w', Oi w' base e v' (l ++ m) → w.grownBy w' v.ownBlock → (v'.ownBlock = v.ownBlock ∨ v'.ownBlock = some w.heap.size) → K (a.put o.dst v') w') :
    if Region.wanted o (yielded ops a.tmps) = true then Oper.wp Try.prog o a w K Q else E := by
  have hw : Region.wanted o (yielded ops a.tmps) = true := by simp [Region.wanted, hgd]
  rw [if_pos hw]
  obtain ⟨v', w', hrun, h1, h2, h3⟩ := run_append_it t o.type base e he v l hown vx m hm hlen hbase
  unfold Oper.wp
  simp [execOp, ho, resolve, invoke, builtin, hs, hx, hrun, Result.andThen]
  exact cont v' w' h1 h2 h3
theorem step_append_run {ops : Array Oper} {o : Oper} {a : Act} {w : World} {K : Act → World → Prop} {Q : Exit → Act → World → Prop} {E : Prop} (hgd : o.guard = none) (s x : Operand) (t : TypeId)
    (ho : o.op = .call { callee := .builtin .append, args := #[s, x], argTypes := #[t, t] }) (v vx : Value) (hs : a.eval s = v) (hx : a.eval x = vx) {v' : Value} {w' : World}
    (hrun : (Builtin.append_ #[t, t] o.type #[v, vx]).run Try.prog w = .ok v' w') (cont : K (a.put o.dst v') w') :
    if Region.wanted o (yielded ops a.tmps) = true then Oper.wp Try.prog o a w K Q else E := by
  have hw : Region.wanted o (yielded ops a.tmps) = true := by simp [Region.wanted, hgd]
  rw [if_pos hw]
  unfold Oper.wp
  simp [execOp, ho, resolve, invoke, builtin, hs, hx, hrun, Result.andThen]
  exact cont

end Go.Proofs.Ytdfdoinhkjoalaa
