/-
  The document's tally in memory: contracts of its Add, Note, Bars, and of the laws' same. Conditions: what its cells hold.
-/
import Derived.Test.YtlhiienmhglieaaDoorTlPart
import Derived.Maps.AppendAt
import Derived.Laws.AppendOwnNone
namespace Go.Proofs.YtlhiienmhglieaaDoor
open Go.RowKit
set_option linter.unusedVariables false

theorem Kp.own {w w' : World} (k : Kp w w') {base : Nat} {e : TypeId} {size : Nat} {v : Value} {n : Nat} {xs : List Value} (h : w.ownsRow base e size v n xs) : w'.ownsRow base e size v n xs := by
  rcases h.2 with ⟨h', h0⟩ | ⟨g, cap, cur, h', hb, hg, hr⟩
  · exact ⟨h.1, .inl ⟨h', h0⟩⟩
  · exact ⟨h.1, .inr ⟨g, cap, cur, h', hb, (k.block g (Array.getElem?_eq_some_iff.1 hg).1).trans hg, hr⟩⟩
theorem own_lt {w : World} {base : Nat} {e : TypeId} {size : Nat} {v : Value} {n : Nat} {xs : List Value} (h : w.ownsRow base e size v n xs) : ∀ k, v.ownBlock = some k → base ≤ k := fun k hk => (h.lt k hk).1
def iv (l : List Int) : List Value := l.map (Value.int .i64)
def OwnJ (w : World) (base : Nat) (v : Value) (l : List Int) : Prop := w.ownsRow base 2 1 v l.length (iv l)
theorem OwnJ.kept {w w' : World} {base : Nat} {v : Value} {l : List Int} (h : OwnJ w base v l) (k : Kp w w') : OwnJ w' base v l := k.own h
theorem OwnJ.alloc {w : World} {base : Nat} {v : Value} {l : List Int} (h : OwnJ w base v l) (o : Obj) : OwnJ (w.alloc o) base v l := ((Kp.refl w).alloc o).own h
/-- one number appended. -/
theorem wpList_append_i64 {w : World} {ops : Array Oper} {rest : List Oper} {o : Oper} {a : Act} {Q : Exit → Act → World → Prop} (hgd : o.guard = none) (s x : Operand)
    (ho : o.op = .call { callee := .builtin .append, args := #[s, x], argTypes := #[50, 50] })
    (base : Nat) (v : Value) (l : List Int) (hs : a.eval s = v) (hown : OwnJ w base v l) (p : Int) (k : Nat) (hx : a.eval x = .slice (some ⟨k, 0, none⟩) 1 1) (hc : w.cell? ⟨k, 0, none⟩ = some (.int .i64 p))
    (hlen : l.length + 1 ≤ 1099511627776) (hbase : base ≤ w.heap.size)
    (h : ∀ v' w', OwnJ w' base v' (l ++ [p]) → w.grownBy w' v.ownBlock → wpList Tryd.prog ops Q rest (a.put o.dst v') w') : wpList Tryd.prog ops Q (o :: rest) a w := by
  obtain ⟨i0, hi, hz0, hz1, hz2⟩ := info_parts info_i64
  refine wpList_append_own_at w hgd s x 50 ho base 2 i0 (.int .i64 0) 1 8 Tryd.underlying50 hi hz0 hz1 hz2 rfl (by decide) v l.length (iv l) hs hown ⟨k, 0, none⟩ 1 1 [.int .i64 p] hx rfl ?_ (by simp [Value.oneCell']) (by unfold maxLen; omega) (by omega) hbase (fun v' w' h1 h2 _ _ => h v' w' ?_ h2)
  · intro j u hj
    match j, hj with
    | 0, hj => simp at hj; subst hj; simpa [Addr.add] using hc
  · unfold OwnJ iv
    rw [List.length_append, List.map_append]
    exact h1
/-- a row of numbers, by a function. -/
def FJ (w : World) (base : Nat) (v : Value) (n : Nat) (f : Nat → Int) : Prop := w.ownsRow base 2 1 v n ((List.range n).map fun i => Value.int .i64 (f i))
theorem FJ.of {w : World} {base : Nat} {v : Value} {l : List Int} (h : OwnJ w base v l) : FJ w base v l.length (fun i => l.getD i 0) := by
  have e : ((List.range l.length).map fun i => Value.int .i64 (l.getD i 0)) = iv l := by
    apply List.ext_getElem?
    intro i
    unfold iv
    rw [List.getElem?_map, List.getElem?_map]
    by_cases hi : i < l.length
    · rw [List.getElem?_range hi, List.getElem?_eq_getElem hi]
      simp [List.getD_eq_getElem?_getD, hi]
    · rw [List.getElem?_eq_none (by simpa using hi), List.getElem?_eq_none (by omega)]; rfl
  unfold FJ
  rw [e]
  exact h
theorem FJ.kept {w w' : World} {base : Nat} {v : Value} {n : Nat} {f : Nat → Int} (h : FJ w base v n f) (k : Kp w w') : FJ w' base v n f := k.own h
theorem FJ.shape {w : World} {base : Nat} {v : Value} {n : Nat} {f : Nat → Int} (h : FJ w base v n f) : ∃ a cap, v = .slice a n cap ∧ n ≤ cap ∧ cap ≤ 9223372036854775807 ∧ (0 < n → ∃ g, a = some ⟨g, 0, none⟩ ∧ base ≤ g) := by
  rcases h.2 with ⟨rfl, rfl⟩ | ⟨g, cap, cur, rfl, hb, hg, hn, hm, _⟩
  · exact ⟨none, 0, rfl, by omega, by omega, fun h => absurd h (by omega)⟩
  · unfold maxLen at hm
    exact ⟨_, cap, rfl, hn, by omega, fun _ => ⟨g, rfl, hb⟩⟩
theorem FJ.at {w : World} {base g n cap : Nat} {f : Nat → Int} (h : FJ w base (.slice (some ⟨g, 0, none⟩) n cap) n f) (j : Nat) (hj : j < n) : w.cell? ⟨g, j, none⟩ = some (.int .i64 (f j)) := by
  rw [World.ownsRow.cellAt h j (by omega)]
  simp [hj]
theorem FJ.z {w : World} {base g n cap : Nat} {f : Nat → Int} (h : FJ w base (.slice (some ⟨g, 0, none⟩) n cap) n f) (o : Nat) : w.frozen? ⟨g, o, none⟩ = false := World.ownsRow.frozenAt h o
theorem FJ.set {w : World} {base g n cap : Nat} {f : Nat → Int} (h : FJ w base (.slice (some ⟨g, 0, none⟩) n cap) n f) (j : Nat) (x : Int) : FJ (w.setCell ⟨g, j, none⟩ (.int .i64 x)) base (.slice (some ⟨g, 0, none⟩) n cap) n (fun i => if i = j then x else f i) := by
  have h1 := (World.ownsRow.stored h j (.int .i64 x)).1
  have e : ((List.range n).map fun i => Value.int .i64 (if i = j then x else f i)) = ((List.range n).map fun i => Value.int .i64 (f i)).set j (.int .i64 x) := by
    apply List.ext_getElem?
    intro i
    rw [List.getElem?_set, List.getElem?_map, List.getElem?_map, List.length_map, List.length_range]
    by_cases hi : i < n
    · rw [List.getElem?_range hi]
      by_cases e : j = i
      · subst e; simp [hi]
      · have : ¬ i = j := fun h => e h.symm
        simp [e, this]
    · rw [List.getElem?_eq_none (by simpa using hi)]
      by_cases e : j = i
      · subst e; simp [hi]
      · simp [e]
  unfold FJ
  rw [e]
  exact h1
theorem FJ.congr {w : World} {base : Nat} {v : Value} {n : Nat} {f g : Nat → Int} (h : FJ w base v n f) (e : ∀ j, f j = g j) : FJ w base v n g := by
  rw [show g = f from funext fun j => (e j).symm]; exact h
/-- numbers in memory. -/
def InJ (w : World) (v : Value) (l : List Int) : Prop := ∃ a g cap, v = .slice a l.length cap ∧ l.length ≤ cap ∧ cap ≤ 9223372036854775807 ∧ (0 < l.length → a = some ⟨g, 0, none⟩) ∧ ∀ j, j < l.length → w.cell? ⟨g, j, none⟩ = some (.int .i64 (l.getD j 0))
theorem OwnJ.ints {w : World} {base : Nat} {v : Value} {l : List Int} (h : OwnJ w base v l) : InJ w v l := by
  have h1 := FJ.of h
  obtain ⟨a, cap, rfl, hn, hc, hg⟩ := h1.shape
  by_cases h0 : 0 < l.length
  · obtain ⟨g, rfl, _⟩ := hg h0
    exact ⟨_, g, cap, rfl, hn, hc, fun _ => rfl, fun j hj => h1.at j hj⟩
  · exact ⟨a, 0, cap, rfl, hn, hc, fun h => absurd h h0, fun j hj => absurd hj (by omega)⟩
theorem InJ.kept {w w' : World} {v : Value} {l : List Int} (h : InJ w v l) (k : Kp w w') : InJ w' v l := by
  obtain ⟨a, g, cap, rfl, h1, h2, h3, h4⟩ := h
  exact ⟨a, g, cap, rfl, h1, h2, h3, fun j hj => k.held (h4 j hj)⟩


theorem zero_ref (w : World) : (zeroValue 29).run Tryd.prog w = .ok (.agg zF) w := by kernel_rfl

set_option maxHeartbeats 2000000 in
theorem radd_any (t : Nat) (s : TS) (N k n : Int) (w : World) (h : TlIn w t s) (ho : Ok s N) (hn : n ≤ 9223372036854775807) : Calls Tryd.prog 13 #[.pointer (some ⟨t, 0, none⟩), .int .i64 k, .int .i64 n] w fun e w' => e = .returned (.tuple #[]) ∧ TlIn w' t (ad s k n) ∧ Sp [t] w w' := by
  by_cases hb : (0 ≤ k ∧ k < 9) ∧ 0 < n
  · obtain ⟨hk, h0⟩ := hb
    obtain ⟨j, rfl⟩ : ∃ j : Nat, k = j := ⟨k.toNat, by omega⟩
    have hj : j < 9 := by omega
    have hE : ∀ w', Kp w w' → TlIn (w'.setCell ⟨t, j, none⟩ (.int .i64 (adC (s.c j) n))) t (ad s j n) ∧ Sp [t] w (w'.setCell ⟨t, j, none⟩ (.int .i64 (adC (s.c j) n))) := fun w' kw => ⟨(h.kp kw).setC j hj _ _ (fun i hi => by
        show (if (0 ≤ (j : Int) ∧ (j : Int) < 9 ∧ 0 < n) ∧ i = ((j : Nat) : Int).toNat then adC (s.c i) n else s.c i) = _
        by_cases e : i = j
        · subst e; rw [if_pos ⟨⟨by omega, by omega, h0⟩, by omega⟩, if_pos rfl]
        · rw [if_neg (fun hh => e (by omega)), if_neg e]) rfl rfl, (kw.sp [t]).set t j (by simp) _⟩
    have hc := h.c j hj
    have hz := h.z j
    have hb := ho.c j
    obtain ⟨x, hx⟩ : ∃ x, x = s.c j := ⟨_, rfl⟩
    rw [← hx] at hc hb hE
    have hw1 : IntKind.i64.wrap (4611686018427387904 - x) = 4611686018427387904 - x := by rw [IntKind.wrap_i64]; omega
    have HE := hid hE
    clear hx ho h hE
    by_cases hg : 4611686018427387904 - x < n
    · have e : adC x n = 4611686018427387904 := by unfold adC; omega
      rw [e] at HE
      go_enter Tryd.func13, Tryd.ntmps13
      go_wp2
      refine bodyPost_ret (results_none rfl _ _ _) rfl ?_
      exact ⟨rfl, HE.out w (Kp.refl w)⟩
    · have e : adC x n = x + n := by unfold adC; omega
      rw [e] at HE
      have hw2 : IntKind.i64.wrap (x + n) = x + n := by rw [IntKind.wrap_i64]; omega
      have y1 := kpw_cell hc
      go_enter Tryd.func13, Tryd.ntmps13
      go_wp2_with fail
      refine wp_region_tailc2 rfl (by kernel_rfl) (by kernel_rfl) (by kernel_rfl) ?_
      simp only [List.dropLast]
      repeat (first
        | go_big_quiet_skip
        | (go_big_quiet_want; go_big_quiet_op; go_big_quiet_on))
      refine wpQuiet_nil ?_
      rintro w9 ⟨p, hp9⟩
      have kD : Kp w w9 := by rw [hp9]; exact kpw_kp w p
      have hF := HE.out w9 kD
      have hz9 : w9.frozen? ⟨t, j, none⟩ = false := (kD.sp []).frozen (World.block_lt_of_cell? w _ hc) (by simp) j |>.trans hz
      have hc9 := kD.held hc
      have HF := hid hF
      clear hp9 y1 hF HE kD
      go_wp2
      go_end0
      exact ⟨rfl, HF⟩
  · have e : ad s k n = s := TS.ext' (fun i => by show (if _ then _ else _) = _; rw [if_neg (fun hh => hb ⟨⟨hh.1.1, hh.1.2.1⟩, hh.1.2.2⟩)]) (fun _ => rfl) rfl
    rw [e]
    clear e
    have HT := hid h
    clear h
    by_cases h1 : k < 0
    · go_enter Tryd.func13, Tryd.ntmps13
      go_wp2
      refine bodyPost_ret (results_none rfl _ _ _) rfl ?_
      exact ⟨rfl, HT, Sp.refl _ _⟩
    · by_cases h2 : 9 ≤ k
      · go_enter Tryd.func13, Tryd.ntmps13
        go_wp2
        refine bodyPost_ret (results_none rfl _ _ _) rfl ?_
        exact ⟨rfl, HT, Sp.refl _ _⟩
      · have h3 : n ≤ 0 := by omega
        have h1' : 0 ≤ k := by omega
        have h2' : k < 9 := by omega
        clear hb h1 h2
        go_enter Tryd.func13, Tryd.ntmps13
        go_wp2
        refine bodyPost_ret (results_none rfl _ _ _) rfl ?_
        exact ⟨rfl, HT, Sp.refl _ _⟩

theorem bl_half (v : Int) (h : 0 < v) (h9 : v ≤ 9223372036854775807) : bl v = 1 + bl (v / 2) := by
  unfold bl
  rw [Lib.bitLen_half (max v 0).toNat (by omega) (by show (max v 0).toNat < 18446744073709551616; omega)]
  rw [show (max (v / 2) 0).toNat = (max v 0).toNat / 2 by omega]
theorem bl_zero (v : Int) (h : v ≤ 0) : bl v = 0 := by
  unfold bl
  rw [show (max v 0).toNat = 0 by omega]
  decide +kernel

set_option maxRecDepth 100000 in
set_option maxHeartbeats 2000000 in
theorem rnote_any (t : Nat) (s : TS) (N x : Int) (w : World) (h : TlIn w t s) (ho : Ok s N) (hN : N ≤ 1000) (hx0 : -9223372036854775808 ≤ x) (hx : x ≤ 9223372036854775807) : Calls Tryd.prog 10 #[.pointer (some ⟨t, 0, none⟩), .int .i64 x] w fun e w' => e = .returned (.tuple #[]) ∧ TlIn w' t (nt s x) ∧ Sp [t] w w' := by
  have HT := hid h
  have hb64 := bl_lt x hx
  clear h
  go_enter Tryd.func10, Tryd.ntmps10
  go_wp2_with fail
  go_loopw [4, 5] (fun c v wr => ∃ (n : Nat) (y : Int), c = .int .i64 n ∧ v = .int .i64 y ∧ n + bl y = bl x ∧ -9223372036854775808 ≤ y ∧ y ≤ 9223372036854775807 ∧ wr = w) (fun _ v _ => (intOf v).toNat)
  case atStart => exact ⟨0, x, by go_num, rfl, by omega, by omega, by omega, rfl⟩
  case round =>
    obtain ⟨n, y, rfl, rfl, hny, hy0, hy1, rfl⟩ := hrel
    by_cases hp : 0 < y
    · have hq : IntKind.i64.wrap (y.tdiv 2) = y / 2 := by rw [IntKind.wrap_i64, Int.tdiv_eq_ediv_of_nonneg (by omega)]; omega
      have hh := bl_half y hp hy1
      have hn1 : IntKind.i64.wrap ((n : Int) + 1) = ((n + 1 : Nat) : Int) := by rw [IntKind.wrap_i64]; omega
      have HH := hid hh
      have HNY := hid hny
      clear hh hny
      go_wp2
      go_roundw
      case rel => exact ⟨n + 1, y / 2, by go_num, by first | rfl | go_num, by have := HH.out; have := HNY.out; omega, by omega, by omega, trivial⟩
      case measure => simp [intOf]; omega
    · rw [bl_zero y (by omega)] at hny
      obtain rfl : n = bl x := by omega
      obtain ⟨j, hj⟩ : ∃ j, j = bl x := ⟨_, rfl⟩
      rw [← hj] at hb64 ⊢
      have HJ := hid hj
      have hbj := ho.b j
      have hw1 : IntKind.i64.wrap (s.b j + 1) = s.b j + 1 := by rw [IntKind.wrap_i64]; omega
      have hc := HT.out.b j hb64
      have y1 := kpw_cell hc
      have hmm := ho.m
      clear hny hj
      go_wp2_with fail
      refine wp_region_tailc2 rfl (by kernel_rfl) (by kernel_rfl) (by kernel_rfl) ?_
      simp only [List.dropLast]
      repeat (first
        | go_big_quiet_skip
        | (go_big_quiet_want; go_big_quiet_op; go_big_quiet_on))
      refine wpQuiet_nil ?_
      rintro w9 ⟨p, hp9⟩
      have kD : Kp wr w9 := by rw [hp9]; exact kpw_kp wr p
      have h9 := HT.out.kp kD
      have h10 := h9.setB j hb64 (s.b j + 1) ⟨s.c, fun i => if i = j then s.b i + 1 else s.b i, s.m⟩ (fun i hi => by show (if i = j then s.b i + 1 else s.b i) = (if i = j then s.b j + 1 else s.b i); split <;> simp_all) rfl rfl
      have S10 : Sp [t] wr (w9.setCell ⟨t, 9 + j, none⟩ (.int .i64 (s.b j + 1))) := (kD.sp [t]).set t _ (by simp) _
      have hz9 := h9.z (9 + j)
      have hc9 := h9.b j hb64
      have hm10 := h10.m
      have hz10 := h10.z 73
      have HT10 := hid h10
      have HS10 := hid S10
      obtain ⟨w10, hw10⟩ : ∃ w10, w10 = w9.setCell ⟨t, 9 + j, none⟩ (.int .i64 (s.b j + 1)) := ⟨_, rfl⟩
      clear hp9 y1 hc h9 h10 S10 HT kD
      simp only at hm10
      have hE : ∀ y, y = max s.m (max x 0) → nt s x = ⟨s.c, fun i => if i = j then s.b i + 1 else s.b i, y⟩ := fun y hy => by unfold nt; rw [← HJ.out, hy]
      by_cases hg : s.m < x
      · have hF := HT10.out.setM x ⟨s.c, fun i => if i = j then s.b i + 1 else s.b i, x⟩ rfl rfl rfl
        rw [← hE x (by omega)] at hF
        have HF := hid hF
        have HSF := hid (HS10.out.set t 73 (by simp) (.int .i64 x))
        clear hF hE HT10 HS10 hw10
        go_wp2
        go_end0
        exact ⟨rfl, HF, HSF⟩
      · have hF := HT10.out
        rw [← hE s.m (by omega)] at hF
        have HF := hid hF
        clear hF hE HT10 hw10
        go_wp2
        go_end0
        exact ⟨rfl, HF, HS10⟩

theorem map_snoc (f : Nat → Int) (k : Nat) : (List.range (k + 1)).map f = (List.range k).map f ++ [f k] := by rw [List.range_succ, List.map_append]; rfl
set_option maxRecDepth 100000 in
set_option maxHeartbeats 2000000 in
theorem rbars_any (t : Nat) (s : TS) (w : World) (h : TlIn w t s) : Calls Tryd.prog 28 #[.pointer (some ⟨t, 0, none⟩)] w fun e w' => ∃ v, e = .returned v ∧ InJ w' v ((List.range (en s.b 64)).map s.b) ∧ Kp w w' := by
  have HT := hid h
  clear h
  go_enter Tryd.func28, Tryd.ntmps28
  go_wp2_with fail
  go_loopw [3, 4] (fun l i wr => ∃ k : Nat, k ≤ 64 ∧ i = .int .i64 k ∧ l = .int .i64 ((en s.b k : Nat) - 1 : Int) ∧ wr = w) (fun _ i _ => 64 - (intOf i).toNat)
  case atStart => exact ⟨0, by omega, by go_num, rfl, rfl⟩
  case round =>
    obtain ⟨k, hk, rfl, rfl, rfl⟩ := hrel
    by_cases hlt : k < 64
    · have hc := HT.out.b k hlt
      go_wp2
      all_goals go_roundw
      all_goals (try (case measure => simp [intOf]; omega))
      all_goals (try (case rel =>
        rename_i hh
        refine ⟨k + 1, by omega, by go_num, ?_, trivial⟩
        first
        | (rw [en_yes s.b k (by simpa using hh)]; go_num)
        | (rw [en_no s.b k (by simpa using hh)])))
    · have hk64 : k = 64 := by omega
      have hE := en_le s.b k
      obtain ⟨E, hEE⟩ : ∃ E, E = en s.b k := ⟨_, rfl⟩
      have HK64 := hid hk64
      have hkk : ¬ (k : Int) < 64 := by omega
      clear hk64
      rw [← hEE] at hE ⊢
      have HE := hid hEE
      clear hEE
      obtain ⟨wo, hwo⟩ : ∃ wo, wo = wr := ⟨_, rfl⟩
      subst hwo
      go_wp2_with fail
      go_loopw [5, 6] (fun v i wr => ∃ k : Nat, k ≤ E ∧ i = .int .i64 k ∧ Hid (OwnJ wr wo.heap.size v ((List.range k).map s.b)) ∧ Hid (Kp wo wr)) (fun _ i _ => E - (intOf i).toNat)
      case atStart => exact ⟨0, by omega, by go_num, World.ownsRow_nil _ _ _ _, Kp.refl wo⟩
      case round =>
        obtain ⟨k, hk, rfl, HO, HK⟩ := hrel
        by_cases hlt2 : k < E
        · have hc := (HT.out.kp HK.out).b k (by have := HK64.out; omega)
          have hle : (k : Int) ≤ (E : Int) - 1 := by omega
          go_wp2_with (at_builtin; refine wpList_append_i64 rfl _ _ rfl wo.heap.size _ ((List.range k).map s.b) rfl (HO.out.alloc _) (s.b k) _ rfl (by rw [World.cell?_alloc_at _ _ _ _ rfl]; rfl) (by simp; omega) (by have := HK.out.size; simp; omega) ?_; intro u2 w4 ho2 hg2; have K4 : Hid (Kp wo w4) := (HK.out.alloc _).grown hg2 (fun q hq => own_lt HO.out q hq); have HO4 : Hid (OwnJ w4 wo.heap.size u2 ((List.range (k + 1)).map s.b)) := (by rw [map_snoc]; exact ho2); clear ho2 hg2)
          clear HO HK hc
          go_roundw
          case rel => exact ⟨k + 1, by omega, by go_num, HO4, K4⟩
          case measure => simp [intOf]; omega
        · obtain rfl : k = E := by omega
          have hle : ¬ (k : Int) ≤ (k : Int) - 1 := by omega
          have HF := hid HO.out.ints
          rw [HE.out, HK64.out] at HF
          clear HO
          go_wp2
          go_ret
          exact ⟨_, rfl, HF, HK⟩

theorem InJ.shape {w : World} {v : Value} {n : Nat} {f : Nat → Int} (h : InJ w v ((List.range n).map f)) : ∃ a g cap, v = .slice a n cap ∧ n ≤ cap ∧ cap ≤ 9223372036854775807 ∧ (0 < n → a = some ⟨g, 0, none⟩) ∧ ∀ j, j < n → w.cell? ⟨g, j, none⟩ = some (.int .i64 (f j)) := by
  obtain ⟨a, g, cap, e, h1, h2, h3, h4⟩ := h
  rw [List.length_map, List.length_range] at e h1 h3 h4
  exact ⟨a, g, cap, e, h1, h2, h3, fun j hj => by rw [h4 j hj]; simp [List.getD_eq_getElem?_getD, hj]⟩

set_option maxRecDepth 100000 in
set_option maxHeartbeats 4000000 in
theorem same_any (t r : Nat) (s : TS) (w : World) (h : TlIn w t s) (hr : TlIn w r s) : Calls Tryd.prog 14 #[.pointer (some ⟨t, 0, none⟩), .pointer (some ⟨r, 0, none⟩)] w fun e w' => e = .returned (.bool true) ∧ Kp w w' := by
  have HT := hid h
  have HR := hid hr
  clear h hr
  go_enter Tryd.func14, Tryd.ntmps14
  go_wp2_with fail
  go_loopw [5] (fun i wr => ∃ k : Int, -1 ≤ k ∧ k ≤ 10 ∧ i = .int .i64 k ∧ wr = w) (fun i _ => (10 - intOf i).toNat)
  case atStart => exact ⟨-1, by omega, by omega, rfl, rfl⟩
  case round =>
    obtain ⟨k, hk0, hk1, rfl, rfl⟩ := hrel
    by_cases hlt : k ≤ 9
    · have hg := get_any t s k wr HT.out
      have hk2 : IntKind.i64.wrap (k + 1) = k + 1 := by rw [IntKind.wrap_i64]; omega
      by_cases hb : 0 ≤ k ∧ k < 9
      · obtain ⟨j, rfl⟩ : ∃ j : Nat, k = j := ⟨k.toNat, by omega⟩
        have hj9 : j < 9 := by omega
        have hc := HR.out.c j hj9
        unfold gt at hg
        rw [if_pos hb, show ((j : Nat) : Int).toNat = j by omega] at hg
        clear hb
        go_wp2_with fail
        refine hg.mono ?_; rintro e w7 ⟨rfl, rfl⟩
        go_wp2
        go_roundw
        case rel => exact ⟨(j : Int) + 1, by omega, by omega, by go_num, trivial⟩
        case measure => simp [intOf]; omega
      · unfold gt at hg
        rw [if_neg hb] at hg
        rcases (show k = -1 ∨ k = 9 by omega) with rfl | rfl
        · go_wp2_with fail
          refine hg.mono ?_; rintro e w7 ⟨rfl, rfl⟩
          go_wp2
          go_roundw
          case rel => exact ⟨0, by omega, by omega, by go_num, trivial⟩
          case measure => simp [intOf]
        · go_wp2_with fail
          refine hg.mono ?_; rintro e w7 ⟨rfl, rfl⟩
          go_wp2
          go_roundw
          case rel => exact ⟨10, by omega, by omega, by go_num, trivial⟩
          case measure => simp [intOf]
    · obtain rfl : k = 10 := by omega
      have hb1 := bars_any t s wr HT.out
      obtain ⟨E, hE⟩ : ∃ E, E = en s.b 64 := ⟨_, rfl⟩
      have hE64 : E ≤ 64 := by rw [hE]; exact en_le _ _
      rw [← hE] at hb1
      have HE := hid hE
      clear hE
      go_wp2_with fail
      refine hb1.mono ?_; rintro e w3 ⟨rfl, b3, k3⟩
      have HT3 := hid (HT.out.kp k3)
      have HR3 := hid (HR.out.kp k3)
      have HK3 := hid k3
      obtain ⟨ga, hga⟩ : ∃ ga, ga = wr.heap.size := ⟨_, rfl⟩
      rw [← hga] at b3 ⊢
      have HB3 := hid b3
      have hb2 := rbars_any r s w3 HR3.out
      rw [← HE.out] at hb2
      clear hb1 k3 HT HR b3 hga
      go_wp2_with fail
      refine hb2.mono ?_; rintro e w4 ⟨v, rfl, b4, k4⟩
      obtain ⟨va, g, cap, rfl, hv1, hv2, hv3, hv4⟩ := b4.shape
      have HT4 := hid (HT3.out.kp k4)
      have HR4 := hid (HR3.out.kp k4)
      have HK4 := hid (HK3.out.trans k4)
      have HBa := hid (HB3.out.kp k4)
      have HBb : Hid (∀ j, j < E → w4.cell? ⟨g, j, none⟩ = some (.int .i64 (s.b j))) := hv4
      have hm := fun p => most_any t s (kpw w4 p) (HT4.out.kp (kpw_kp w4 p))
      have y1 := kpw_cell HR4.out.m
      clear hb2 k4 HT3 HR3 HK3 b4 HB3 hv4
      go_wp2_with fail
      refine wp_region_kp (by kernel_rfl) (by kernel_rfl) ?_
      repeat (first
        | go_big_quiet_skip
        | (go_big_quiet_want; go_big_quiet_op; go_big_quiet_on)
        | (go_big_quiet_want; go_big_quiet_op; apply Exists.intro; refine ⟨fun p => ?_, ?_⟩; (focus (go_at_call 20; exact kp_same (hm _))); go_big_quiet_on))
      refine wpQuiet_nil ?_
      rintro w9 ⟨p, hp9⟩
      have kD : Kp w4 w9 := by rw [hp9]; exact kpw_kp w4 p
      have HK9 := hid (HK4.out.trans kD)
      have HBa9 := hid (HBa.out.kp kD)
      have HBb9 : Hid (∀ j, j < E → w9.cell? ⟨g, j, none⟩ = some (.int .i64 (s.b j))) := fun j hj => kD.held (HBb.out j hj)
      clear hp9 hm y1 kD HBa HBb HK4 HT4 HR4
      go_wp2_with fail
      go_loopw [51] (fun i wr => ∃ i0 : Nat, i0 ≤ E ∧ i = .int .i64 i0 ∧ Hid (Kp w9 wr)) (fun i _ => E - (intOf i).toNat)
      case atStart => exact ⟨0, by omega, by go_num, Kp.refl w9⟩
      case round =>
        obtain ⟨i, hi, rfl, HKr⟩ := hrel
        by_cases hlt2 : i < E
        · obtain rfl := hv3 (by omega)
          have f1 := (HBa9.out.kp HKr.out).c i hlt2
          have f2 := HKr.out.held (HBb9.out i hlt2)
          have y1 := kpw_cell f1
          have y2 := kpw_cell f2
          go_wp2_with fail
          refine wp_region_kp (by kernel_rfl) (by kernel_rfl) ?_
          repeat (first
            | go_big_quiet_skip
            | (go_big_quiet_want; go_big_quiet_op; go_big_quiet_on))
          refine wpQuiet_nil ?_
          rintro w8 ⟨p, hp8⟩
          have HK8 : Hid (Kp w9 w8) := by show Kp w9 w8; rw [hp8]; exact HKr.out.trans (kpw_kp _ p)
          clear hp8 y1 y2 f1 f2 HKr
          go_wp2
          go_roundw
          case rel => exact ⟨i + 1, by omega, by go_num, HK8⟩
          case measure => simp [intOf]; omega
        · have HF := hid (HK9.out.trans HKr.out)
          go_wp2
          go_ret
          exact ⟨rfl, HF⟩

set_option maxRecDepth 100000 in
set_option maxHeartbeats 2000000 in
theorem reset_any (t : Nat) (s : TS) (w : World) (h : TlIn w t s) : Calls Tryd.prog 11 #[.pointer (some ⟨t, 0, none⟩)] w fun e w' => e = .returned (.tuple #[]) ∧ TlIn w' t tz ∧ Sp [t] w w' := by
  have HT := hid h
  clear h
  go_enter Tryd.func11, Tryd.ntmps11
  go_wp2_with fail
  go_loopw [6] (fun i wr => ∃ k : Nat, k ≤ 9 ∧ i = .int .i64 k ∧ Hid (TlIn wr t ⟨fun i => if i < k then 0 else s.c i, s.b, s.m⟩) ∧ Hid (Sp [t] w wr)) (fun i _ => 9 - (intOf i).toNat)
  case atStart => exact ⟨0, by omega, by go_num, HT, Sp.refl _ _⟩
  case round =>
    clear HT
    obtain ⟨k, hk, rfl, HT, HS⟩ := hrel
    by_cases hlt : k < 9
    · have hst := istore ⟨t, k, none⟩ _ 0 wr (HT.out.c k hlt) (HT.out.z k)
      go_wp2_with fail
      refine hst.mono ?_; rintro e w7 ⟨rfl, hw7⟩
      have HT7 : Hid (TlIn w7 t ⟨fun i => if i < k + 1 then 0 else s.c i, s.b, s.m⟩) := by
        show TlIn w7 t _
        rw [hw7]
        refine HT.out.setC k hlt 0 _ (fun i hi => ?_) rfl rfl
        show (if i < k + 1 then 0 else s.c i) = (if i = k then 0 else if i < k then 0 else s.c i)
        repeat' split
        all_goals first | rfl | omega
      have HS7 : Hid (Sp [t] w w7) := by show Sp [t] w w7; rw [hw7]; exact HS.out.set t k (by simp) _
      clear hw7 hst HT HS
      go_wp2
      go_roundw
      case rel => exact ⟨k + 1, by omega, by go_num, HT7, HS7⟩
      case measure => simp [intOf]; omega
    · have hk9 : k = 9 := by omega
      have HK9 := hid hk9
      obtain ⟨q, hq⟩ : ∃ q, q = k := ⟨_, rfl⟩
      subst hq
      clear hk9
      go_wp2_with fail
      go_loopw [17] (fun i wr => ∃ k : Nat, k ≤ 64 ∧ i = .int .i64 k ∧ Hid (TlIn wr t ⟨fun i => if i < q then 0 else s.c i, fun i => if i < k then 0 else s.b i, s.m⟩) ∧ Hid (Sp [t] w wr)) (fun i _ => 64 - (intOf i).toNat)
      case atStart => exact ⟨0, by omega, by go_num, HT, HS⟩
      case round =>
        clear HT HS
        obtain ⟨k, hk, rfl, HT, HS⟩ := hrel
        by_cases hlt2 : k < 64
        · have hst := istore ⟨t, 9 + k, none⟩ _ 0 wr (HT.out.b k hlt2) (HT.out.z _)
          go_wp2_with fail
          refine hst.mono ?_; rintro e w7 ⟨rfl, hw7⟩
          have HT7 : Hid (TlIn w7 t ⟨fun i => if i < q then 0 else s.c i, fun i => if i < k + 1 then 0 else s.b i, s.m⟩) := by
            show TlIn w7 t _
            rw [hw7]
            refine HT.out.setB k hlt2 0 _ (fun i hi => ?_) rfl rfl
            show (if i < k + 1 then 0 else s.b i) = (if i = k then 0 else if i < k then 0 else s.b i)
            repeat' split
            all_goals first | rfl | omega
          have HS7 : Hid (Sp [t] w w7) := by show Sp [t] w w7; rw [hw7]; exact HS.out.set t _ (by simp) _
          clear hw7 hst HT HS
          go_wp2
          go_roundw
          case rel => exact ⟨k + 1, by omega, by go_num, HT7, HS7⟩
          case measure => simp [intOf]; omega
        · obtain rfl : k = 64 := by omega
          have hst := istore ⟨t, 73, none⟩ _ 0 wr HT.out.m (HT.out.z _)
          go_wp2_with fail
          refine hst.mono ?_; rintro e w7 ⟨rfl, hw7⟩
          have HT7 : Hid (TlIn w7 t tz) := by
            show TlIn w7 t _
            rw [hw7]
            have h1 := HT.out.setM 0 ⟨fun i => if i < q then 0 else s.c i, fun i => if i < 64 then 0 else s.b i, 0⟩ rfl rfl rfl
            exact ⟨h1.hb, fun j hj => by rw [h1.c j hj]; show some (Value.int .i64 (if j < q then 0 else s.c j)) = _; rw [if_pos (by have := HK9.out; omega)]; rfl, fun j hj => by rw [h1.b j hj]; show some (Value.int .i64 (if j < 64 then 0 else s.b j)) = _; rw [if_pos hj]; rfl, h1.m, h1.z⟩
          have HS7 : Hid (Sp [t] w w7) := by show Sp [t] w w7; rw [hw7]; exact HS.out.set t _ (by simp) _
          clear hw7 hst HT HS
          go_wp2
          go_end0
          exact ⟨rfl, HT7, HS7⟩

end Go.Proofs.YtlhiienmhglieaaDoor
