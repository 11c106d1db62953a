/-
  Parts of a list of spans (slices of it), and contracts of spans' put and stretch upon a row of the call's own. Conditions: that the lists' cells hold the spans.
-/
import Derived.Test.YtmkmejdbhikomaaSpReach
namespace Go.Proofs.Ytmkmejdbhikomaa
open Go.RowKit Plain
set_option linter.unusedVariables false

theorem size26 (W : World) : (sizeOf (Try.prog.elem 26)).run Try.prog W = .ok 2 W := by
  obtain ⟨i0, hi, hz0, hz1, hz2⟩ := info_parts elt26.i
  have he : Try.prog.elem 26 = 30 := by kernel_rfl
  rw [he]
  simp [sizeOf, typeInfo, hi, hz1]
theorem und26 : Try.prog.underlying 26 = some (.slice (Try.prog.elem 26)) := by kernel_rfl
def cutA (a : Option Addr) (cap i : Nat) : Option Addr := if cap = i then a else a.map (·.add (i * 2))
theorem SpAt.part {w : World} {a : Option Addr} {b off cap : Nat} {l : List (Int × Int)} (h : SpAt w a b off cap l) (i j : Nat) (hij : i ≤ j) (hj : j ≤ l.length) : SpAt w (cutA a cap i) b (off + i * 2) (cap - i) ((l.take j).drop i) := by
  have hl : ((l.take j).drop i).length = j - i := by rw [List.length_drop, List.length_take]; omega
  have hat : ∀ k, k < j - i → ((l.take j).drop i).getD k (0, 0) = l.getD (i + k) (0, 0) := fun k hk => by
    rw [List.getD_eq_getElem?_getD, List.getElem?_drop, List.getElem?_take, if_pos (by omega), ← List.getD_eq_getElem?_getD]
  have hle := h.le
  refine ⟨fun h0 => ?_, fun hn => ?_, by omega, by have := h.mx; omega, fun k hk => ?_, fun k hk => ?_⟩
  · unfold cutA
    rw [if_neg (by omega), h.ha (by omega)]
    simp [Addr.add_lit]
  · unfold cutA at hn
    split at hn
    · omega
    · have := h.hn (by simpa using hn); omega
  · rw [hl] at hk
    rw [hat k hk, show off + i * 2 + k * 2 = off + (i + k) * 2 by omega]
    exact h.c0 (i + k) (by omega)
  · rw [hl] at hk
    rw [hat k hk, show off + i * 2 + k * 2 = off + (i + k) * 2 by omega]
    exact h.c1 (i + k) (by omega)
theorem run_part (a : Option Addr) (n cap i j : Nat) (hij : i ≤ j) (hj : j ≤ cap) (W : World) : (Instr.slice 26 (.slice a n cap) (some (.int .i64 (i : Int))) (some (.int .i64 (j : Int))) none).run Try.prog W = .ok (.slice (cutA a cap i) (j - i) (cap - i)) W := by
  rw [run_slice_lh W 26 a n cap und26 .i64 .i64 i j (by omega) (by omega) (by omega), size26]
  simp [sliced, cutA, Result.andThen]
theorem run_head (a : Option Addr) (n cap j : Nat) (hj : j ≤ cap) (W : World) : (Instr.slice 26 (.slice a n cap) none (some (.int .i64 (j : Int))) none).run Try.prog W = .ok (.slice (cutA a cap 0) j cap) W := by
  rw [run_slice_h W 26 a n cap und26 .i64 j (by omega) (by omega), size26]
  simp [sliced, cutA, Result.andThen]
theorem run_tail (a : Option Addr) (n cap i : Nat) (hi : i ≤ n) (hn : n ≤ cap) (W : World) : (Instr.slice 26 (.slice a n cap) (some (.int .i64 (i : Int))) none none).run Try.prog W = .ok (.slice (cutA a cap i) (n - i) (cap - i)) W := by
  rw [run_slice_l W 26 a n cap und26 .i64 i (by omega) (by omega), size26]
  simp [sliced, cutA, Result.andThen]
theorem SpIn.part {w : World} {a : Option Addr} {b off cap : Nat} {l : List (Int × Int)} (h : SpAt w a b off cap l) (i j : Nat) (hij : i ≤ j) (hj : j ≤ l.length) : SpIn w (.slice (cutA a cap i) (j - i) (cap - i)) ((l.take j).drop i) :=
  ⟨_, _, _, _, by rw [show ((l.take j).drop i).length = j - i by rw [List.length_drop, List.length_take]; omega], h.part i j hij hj⟩
theorem SpIn.head {w : World} {a : Option Addr} {b off cap : Nat} {l : List (Int × Int)} (h : SpAt w a b off cap l) (j : Nat) (hj : j ≤ l.length) : SpIn w (.slice (cutA a cap 0) j cap) (l.take j) := by
  have := SpIn.part h 0 j (by omega) hj
  simpa using this
theorem SpIn.tail {w : World} {a : Option Addr} {b off cap : Nat} {l : List (Int × Int)} (h : SpAt w a b off cap l) (i : Nat) (hi : i ≤ l.length) : SpIn w (.slice (cutA a cap i) (l.length - i) (cap - i)) (l.drop i) := by
  have := SpIn.part h i l.length hi (by omega)
  rwa [List.take_length] at this

/-- spans appended to a row of the call's own: the run. -/
theorem run_append_sp {w : World} (t ty : TypeId) (base : Nat) (e : TypeId) (he : Elt t e) (v : Value) (l : List (Int × Int)) (hown : Own w base e v l) (vx : Value) (m : List (Int × Int)) (hm : SpIn w vx m)
    (hlen : l.length + m.length ≤ 1099511627776) (hbase : base ≤ w.heap.size) :
    ∃ v' w', (Builtin.append_ #[t, t] ty #[v, vx]).run Try.prog w = .ok v' w' ∧ Own w' base e v' (l ++ m) ∧ w.grownBy w' v.ownBlock ∧ (v'.ownBlock = v.ownBlock ∨ v'.ownBlock = some w.heap.size) := by
  obtain ⟨i0, hi, hz0, hz1, hz2⟩ := info_parts he.i
  obtain ⟨ao, b, off, cap, rfl, hA⟩ := hm
  have hK : ∀ v' w', w'.ownsRow base e 2 v' (l.length + m.length) (pv l ++ pv m) → Own w' base e v' (l ++ m) := fun v' w' hh => by
    unfold Own
    rw [List.length_append, pv_app]
    exact hh
  cases ao with
  | some p =>
    obtain ⟨pb, po, pe⟩ := p
    obtain ⟨v', w', hr, h1, h2, _, h3⟩ := run_append_own_at (P := Try.prog) w base t ty e i0 (.agg #[.int .i64 0, .int .i64 0]) 2 16 he.u hi hz0 hz1 hz2 rfl (by decide) v l.length (pv l) hown ⟨pb, po, pe⟩ m.length cap (pv m) (pv_len m) (by
      intro j u hj
      have hj2 : j < m.length * 2 := by
        have := (List.getElem?_eq_some_iff.1 hj).1
        rwa [pv_len] at this
      have hp := hA.ha (by omega)
      cases hp
      rw [Addr.add_lit]
      have hd : j = j / 2 * 2 ∨ j = j / 2 * 2 + 1 := by omega
      have hq := pv_at m (j / 2) (by omega)
      rcases hd with hd | hd
      · rw [hd, hq.1] at hj
        rw [hd, ← hj]
        exact hA.c0 (j / 2) (by omega)
      · rw [hd, hq.2] at hj
        rw [hd, ← hj]
        exact hA.c1 (j / 2) (by omega)) (pv_one m) (by unfold maxLen; omega) (by omega) hbase
    exact ⟨v', w', hr, hK _ _ h1, h2, h3⟩
  | none =>
    obtain rfl := hA.hn rfl
    obtain rfl : m = [] := List.eq_nil_of_length_eq_zero (by have := hA.le; omega)
    exact ⟨v, w, run_append_owned_none w base t ty e i0 2 he.u hi v l.length (pv l) hown, by rw [List.append_nil]; exact hown, World.grownBy.refl _ _, .inl rfl⟩
/-- a row made, with room for c spans. -/
theorem run_make_sp (w : World) (base : Nat) (hb : base ≤ w.heap.size) (c : Nat) (hc : c ≤ 1099511627776) : ∃ w', (Instr.makeSlice 26 (.int .i64 0) (.int .i64 (c : Int))).run Try.prog w = .ok (.slice (some ⟨w.heap.size, 0, none⟩) 0 c) w' ∧ Own w' base 30 (.slice (some ⟨w.heap.size, 0, none⟩) 0 c) [] ∧ w.grownBy w' none := by
  obtain ⟨i0, hi, hz0, hz1, hz2⟩ := info_parts elt26.i
  exact run_make_own (P := Try.prog) w base 26 30 i0 (.agg #[.int .i64 0, .int .i64 0]) 2 elt26.u hi hz0 hz1 .i64 .i64 c (by rw [hz2]; omega) (by unfold maxLen; omega) hb

/-- all blocks but one of the call's own, and what is new, are as they were. -/
theorem Kp.grownB {w w' : World} {row : Option Nat} {base : Nat} {W : World} (k : Kp W w) (g : w.grownBy w' row) (hr : ∀ k, row = some k → base ≤ k) (hb : W.heap.size ≤ base) : Kp W w' := k.grown g (fun q hq => by have := hr q hq; omega)
theorem grown_cell {w w' : World} {row : Option Nat} (g : w.grownBy w' row) {b o : Nat} {v : Value} (h : w.cell? ⟨b, o, none⟩ = some v) (hr : ∀ k, row = some k → k ≠ b) : w'.cell? ⟨b, o, none⟩ = some v :=
  g.cell (a := ⟨b, o, none⟩) h (fun e => hr b e.symm rfl)
theorem grownBy_kp {a b c : World} {row : Option Nat} (g : a.grownBy b row) (k : Kp b c) : a.grownBy c row :=
  ⟨k.os.trans g.os, k.tape.trans g.tape, k.output.trans g.output, Nat.le_trans g.size k.size, fun i hi hne => (k.block i (Nat.lt_of_lt_of_le hi g.size)).trans (g.block i hi hne)⟩
theorem kp_grownBy {a b c : World} {row : Option Nat} (k : Kp a b) (g : b.grownBy c row) : a.grownBy c row :=
  ⟨g.os.trans k.os, g.tape.trans k.tape, g.output.trans k.output, Nat.le_trans k.size g.size, fun i hi hne => (g.block i (Nat.lt_of_lt_of_le hi k.size) hne).trans (k.block i hi)⟩

/-- where a grown row lies: where it lay, or in new memory. -/
def RowAt (w : World) (v v' : Value) : Prop := v'.ownBlock = v.ownBlock ∨ ∃ k, v'.ownBlock = some k ∧ w.heap.size ≤ k
theorem RowAt.refl (w : World) (v : Value) : RowAt w v v := .inl rfl
set_option maxRecDepth 100000 in
set_option maxHeartbeats 2000000 in
/-- put: pieces of which something is left, behind a row of the call's own. -/
theorem put_at (base : Nat) (v : Value) (l : List (Int × Int)) (a : Option Addr) (b off cap : Nat) (m : List (Int × Int)) (w : World) (hown : Own w base 30 v l) (hb : base ≤ w.heap.size) (h : SpAt w a b off cap m) (hd : ∀ k, v.ownBlock = some k → k ≠ b) (hlen : l.length + m.length ≤ 1000000) :
    Calls Try.prog 34 #[v, .slice a m.length cap] w fun e w' => ∃ u, e = .returned u ∧ Own w' base 30 u (l ++ m.flatMap pt) ∧ w.grownBy w' v.ownBlock ∧ RowAt w v u := by
  obtain ⟨n, hn⟩ : ∃ n, n = m.length := ⟨_, rfl⟩
  have HN : Hid (n = m.length) := hn
  have HA : Hid (SpAt w a b off cap m) := h
  have HD : Hid (∀ k, v.ownBlock = some k → k ≠ b) := hd
  have HO : Hid (Own w base 30 v l) := hown
  have ha := h.ha
  rw [← hn] at ha hlen ⊢
  clear h hn hd hown
  have hG := good1_any
  unfold spV at hG
  go_enter Try.func34, Try.ntmps34
  go_wp2
  go_loopw [9, 0] (fun i q wr => ∃ k : Nat, k ≤ n ∧ i = .int .i64 k ∧ Hid (Own wr base 30 q (l ++ (m.take k).flatMap pt)) ∧ Hid (w.grownBy wr v.ownBlock) ∧ Hid (RowAt w v q)) (fun i _ _ => n - (intOf i).toNat)
  case atStart => exact ⟨0, by omega, rfl, (by show Own w base _ v (l ++ ([] : List (Int × Int)).flatMap pt); simpa using HO.out), World.grownBy.refl _ _, RowAt.refl w v⟩
  case round =>
    obtain ⟨k, hk, rfl, HQ, HB, HR⟩ := hrel
    by_cases hlt : k < n
    · obtain rfl := ha (by omega)
      have hlt2 : k < m.length := by rw [← HN.out]; exact hlt
      have c0 := grown_cell HB.out (HA.out.c0 k hlt2) HD.out
      have c1 := grown_cell HB.out (HA.out.c1 k hlt2) HD.out
      have HT : Hid (m.take (k + 1) = m.take k ++ [m.getD k (0, 0)]) := take_at m k hlt2
      obtain ⟨p, hp⟩ : ∃ p, p = m.getD k (0, 0) := ⟨_, rfl⟩
      rw [← hp] at c0 c1 HT
      clear hp hlt2
      obtain ⟨x, y⟩ := p
      simp only at c0 c1
      have hG1 := hG (x, y)
      clear hG
      go_wp2_with fail
      refine (hG1 _).mono ?_; rintro e' w1 ⟨rfl, k1⟩
      have d0 : w1.cell? ⟨wr.heap.size, 0, none⟩ = some (.int .i64 x) := k1.held (by simp)
      have d1 : w1.cell? ⟨wr.heap.size, 1, none⟩ = some (.int .i64 y) := k1.held (by simp)
      have K1 : Hid (Kp wr w1) := ((Kp.refl wr).alloc _).trans k1
      clear hG1 k1 c0 c1
      cases hg : gd (x, y) with
      | false =>
        have HF : Hid ((m.take (k + 1)).flatMap pt = (m.take k).flatMap pt) := by rw [HT.out, List.flatMap_append]; simp [pt, hg, Hid]
        clear HT hg
        go_wp2
        go_roundw
        case rel => exact ⟨k + 1, by omega, by go_num, by rw [HF.out]; exact K1.out.own HQ.out, grownBy_kp HB.out K1.out, HR⟩
        case measure => simp [intOf]; omega
      | true =>
        have HF : Hid ((m.take (k + 1)).flatMap pt = (m.take k).flatMap pt ++ [(x, y)]) := by rw [HT.out, List.flatMap_append]; simp [pt, hg, Hid]
        have HL : Hid ((l ++ (m.take k).flatMap pt).length + 1 ≤ 1099511627776) := by
          have h1 : ∀ z : List (Int × Int), (z.flatMap pt).length ≤ z.length := fun z => by
            induction z with
            | nil => simp
            | cons q z ih => rw [List.flatMap_cons, List.length_append, List.length_cons]; have := pt_len q; omega
          have h2 := h1 (m.take k)
          rw [List.length_take] at h2
          rw [List.length_append]
          show _ ≤ _
          omega
        clear HT hg
        go_wp2_with (at_builtin; refine wpList_append_sp rfl _ _ 26 rfl base 30 elt26 _ (l ++ (m.take k).flatMap pt) rfl ((K1.out.own HQ.out : Own w1 base 30 _ _).alloc _) _ [(x, y)] rfl (SpIn.lit1 _ (x, y) _) HL.out ?c1 ?_; rotate_left; intro u2 w2 ho2 hg2 hr2)
        case c1 =>
          have h1 := HB.out.size
          have h2 := K1.out.size
          simp
          omega
        have HO2 : Hid (Own w2 base 30 u2 (l ++ (m.take (k + 1)).flatMap pt)) := by rw [HF.out, ← List.append_assoc]; exact ho2
        have HB2 : Hid (w.grownBy w2 v.ownBlock ∧ RowAt w v u2) := by
          have g1 : wr.grownBy w2 _ := kp_grownBy (K1.out.alloc _) hg2
          have hs := HB.out.size
          have hs2 := K1.out.size
          refine ⟨⟨g1.os.trans HB.out.os, g1.tape.trans HB.out.tape, g1.output.trans HB.out.output, Nat.le_trans hs g1.size, fun i hi hne => ?_⟩, ?_⟩
          · refine (g1.block i (by omega) (fun e => ?_)).trans (HB.out.block i hi hne)
            rcases HR.out with hr | ⟨q, hr, hq⟩
            · exact hne (e.trans hr)
            · have e3 : some i = some q := e.trans hr
              cases e3; omega
          · rcases hr2 with hr2 | hr2
            · rcases HR.out with hr | ⟨q, hr, hq⟩
              · exact .inl (hr2.trans hr)
              · exact .inr ⟨q, hr2.trans hr, hq⟩
            · exact .inr ⟨_, hr2, by simp; omega⟩
        clear ho2 hg2 hr2 HF HL HQ HB HR K1 d0 d1
        go_wp2
        go_roundw
        case rel => exact ⟨k + 1, by omega, by go_num, HO2, HB2.out.1, HB2.out.2⟩
        case measure => simp [intOf]; omega
    · obtain rfl : k = n := by omega
      have HF : Hid (m.take k = m) := by rw [HN.out]; exact List.take_length
      clear hG
      go_wp2
      go_ret
      exact ⟨_, rfl, by have := HQ.out; rwa [HF.out] at this, HB.out, HR.out⟩

end Go.Proofs.Ytmkmejdbhikomaa
