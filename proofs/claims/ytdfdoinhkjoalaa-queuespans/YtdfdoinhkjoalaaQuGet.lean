/-
  Contracts of Get, Take and Items. Conditions: that the object lies in memory as QX says.
-/
import Derived.Test.YtdfdoinhkjoalaaQuPut3
namespace Go.Proofs.Ytdfdoinhkjoalaa
open Go.RowKit Plain
set_option linter.unusedVariables false

def itV (x : It) : Value := .agg #[.int .i64 x.b, .string x.d, .int .i64 x.g]
/-- what Get and Take tell. -/
def gtI (l : List It) (b : Int) : It := (getL l b).getD iz
set_option maxRecDepth 100000 in
set_option maxHeartbeats 2000000 in
theorem qget_any {w0 w : World} {a : Nat} {T : List Nat} {S : QS} (h : QX w0 w a T S) (hq : Qg S) (b : Int) : Calls Try.prog 16 #[.pointer (some ⟨a, 0, none⟩), .int .i64 b] w fun e w' => e = .returned (.tuple #[.string (gtI S.L b).d, .bool (hsI S.L b)]) ∧ Kp w w' := by
  have hF := find_any h hq.sr hq.l b
  have HH : Hid (QX w0 w a T S ∧ Qg S) := ⟨h, hq⟩
  clear h hq
  go_enter Try.func16, Try.ntmps16
  go_wp2_with fail
  refine hF.mono ?_; rintro e w1 ⟨i, rfl, hfd, k1⟩
  obtain ⟨h, hq⟩ := HH.out
  have HIS : Hid (isAt S.L b i = hsI S.L b) := is_hs hq.sr hfd
  cases ha : isAt S.L b i with
  | true =>
    have HB : Hid (hsI S.L b = true) := HIS.out.symm.trans ha
    obtain ⟨A, y, B, e1, e2, e3, e4, e5, e6⟩ := fd_hit hq.sr hfd ha
    have hil : i < S.L.length := by rw [e1]; simp; omega
    obtain ⟨g, cap, hT, hga, hle, hcp, c0, c2, d0, d1, d2, f1, f2⟩ := (h.kept k1).at hil
    have HG : Hid (gtI S.L b = y) := by show gtI S.L b = y; unfold gtI; rw [e1, get_hit e5 e4]; rfl
    rw [e3] at d1
    obtain ⟨n, hn⟩ : ∃ n, n = S.L.length := ⟨_, rfl⟩
    rw [← hn] at c0 hil hle
    have hi2 : (i : Int) < (n : Int) := by omega
    clear h hq HH hF hfd ha e1 e2 e3 e4 e5 e6 d0 d2 f1 f2 hn c2
    go_wp2
    go_ret2
    exact ⟨by rw [HG.out, HB.out]; rfl, k1⟩
  | false =>
    have HB : Hid (hsI S.L b = false) := HIS.out.symm.trans ha
    have HG : Hid (gtI S.L b = iz) := by
      show gtI S.L b = iz
      rw [is_hs hq.sr hfd] at ha
      unfold gtI; rw [get_miss ha]; rfl
    clear h hq HH hF hfd ha
    go_wp2
    go_ret2
    exact ⟨by rw [HG.out, HB.out]; rfl, k1⟩

theorem load_three {P : Program} {w : World} {b o : Nat} (p q r : Value) (h0 : w.cell? ⟨b, o, none⟩ = some p) (h1 : w.cell? ⟨b, o + 1, none⟩ = some q) (h2 : w.cell? ⟨b, o + 2, none⟩ = some r) (ty : TypeId) (fs : Array Field) (hu : P.underlying ty = some (.struct fs)) (hi : (P.info? ty).map (·.size) = some 3) :
    (loadVar ty ⟨b, o, none⟩).run P w = .ok (.agg #[p, q, r]) w := by
  have hl : (loadCells ⟨b, o, none⟩ [p, q, r].length).run P w = .ok [p, q, r].toArray w :=
    run_loadCells_list (P := P) w ⟨b, o, none⟩ [p, q, r] (fun j x hx => by
      rw [Addr.add_lit]
      match j, hx with
      | 0, hx => simp at hx; rw [Nat.add_zero, h0, hx]
      | 1, hx => simp at hx; rw [h1, hx]
      | 2, hx => simp at hx; rw [h2, hx])
  cases hq : P.info? ty with
  | none => simp [hq] at hi
  | some i =>
    have hs : i.size = 3 := by simpa [hq] using hi
    have hagg : (isAgg ty).run P w = .ok true w := by
      unfold isAgg
      rw [Sem.run_bind, run_underlying hu w]
      rfl
    rw [show [p, q, r].length = 3 from rfl] at hl
    simp [loadVar, Sem.run_bind, hagg, sizeOf, typeInfo, hq, hs, hl]
theorem results_it2 {fn : Func} {t u : Tmp} (h : fn.results = #[.cell t 31, .tmp u]) (tmps : Array Value) (w : World) (b : Nat) (x : It) (v : Value) (hp : tmps.getD t undef = .pointer (some ⟨b, 0, none⟩)) (hx : tmps.getD u undef = v) (h0 : w.cell? ⟨b, 0, none⟩ = some (.int .i64 x.b)) (h1 : w.cell? ⟨b, 1, none⟩ = some (.string x.d)) (h2 : w.cell? ⟨b, 2, none⟩ = some (.int .i64 x.g)) :
    (results fn tmps).run Try.prog w = .ok (.tuple #[itV x, v]) w := by
  rw [results_cell_tmp h]
  rw [hp, hx]
  simp [asAddr, load_three _ _ _ h0 h1 h2 31 _ Try.underlying31 (ely_map elyQ), itV]
theorem results_it1 {fn : Func} {t : Tmp} (h : fn.results = #[.cell t 31]) (tmps : Array Value) (w : World) (b : Nat) (x : It) (hp : tmps.getD t undef = .pointer (some ⟨b, 0, none⟩)) (h0 : w.cell? ⟨b, 0, none⟩ = some (.int .i64 x.b)) (h1 : w.cell? ⟨b, 1, none⟩ = some (.string x.d)) (h2 : w.cell? ⟨b, 2, none⟩ = some (.int .i64 x.g)) :
    (results fn tmps).run Try.prog w = .ok (itV x) w := by
  have hp' : tmps[t]?.getD undef = .pointer (some ⟨b, 0, none⟩) := by simpa using hp
  simp [results, h, hp', asAddr, load_three _ _ _ h0 h1 h2 31 _ Try.underlying31 (ely_map elyQ), itV]

/-- a box of three cells, stored anew. -/
theorem box3 {W : World} {t : Nat} {p q r : Value} {ty : TypeId} (h : W.heap[t]? = some (.cells #[p, q, r] ty (0, 0))) (x y z : Value) :
    (((W.setCell ⟨t, 0, none⟩ x).setCell ⟨t, 1, none⟩ y).setCell ⟨t, 2, none⟩ z).heap[t]? = some (.cells #[x, y, z] ty (0, 0)) ∧ Sp [t] W (((W.setCell ⟨t, 0, none⟩ x).setCell ⟨t, 1, none⟩ y).setCell ⟨t, 2, none⟩ z) :=
  ⟨heap_set (heap_set (heap_set h 0 x) 1 y) 2 z, (((Sp.refl _ _).set t 0 (by simp) x).set t 1 (by simp) y).set t 2 (by simp) z⟩

set_option maxRecDepth 100000 in
set_option maxHeartbeats 2000000 in
theorem qtake_any {w0 w : World} {a : Nat} {T : List Nat} {S : QS} (h : QX w0 w a T S) (hq : Qg S) (b : Int) : Calls Try.prog 11 #[.pointer (some ⟨a, 0, none⟩), .int .i64 b] w fun e w' => e = .returned (.tuple #[itV (gtI S.L b), .bool (hsI S.L b)]) ∧ Nz QX w0 w w' a T ⟨delL S.L b, S.m, S.c⟩ := by
  have k0 : Kp w (w.alloc (.cells #[.int .i64 0, .string ⟨#[]⟩, .int .i64 0] 31)) := (Kp.refl w).alloc _
  have hF := find_any (h.kept k0) hq.sr hq.l b
  have HH : Hid (QX w0 w a T S ∧ Qg S) := ⟨h, hq⟩
  have r0 : (w.alloc (.cells #[.int .i64 0, .string ⟨#[]⟩, .int .i64 0] 31)).heap[w.heap.size]? = some (.cells #[.int .i64 0, .string ⟨#[]⟩, .int .i64 0] 31 (0, 0)) := by unfold World.alloc; exact Array.getElem?_push_size
  have K0 : Hid (Kp w (w.alloc (.cells #[.int .i64 0, .string ⟨#[]⟩, .int .i64 0] 31))) := k0
  have R0 : Hid ((w.alloc (.cells #[.int .i64 0, .string ⟨#[]⟩, .int .i64 0] 31)).heap[w.heap.size]? = some (.cells #[.int .i64 0, .string ⟨#[]⟩, .int .i64 0] 31 (0, 0))) := r0
  clear h hq k0 r0
  go_enter Try.func11, Try.ntmps11
  go_wp2_with fail
  refine hF.mono ?_; rintro e w1 ⟨i, rfl, hfd, k1⟩
  obtain ⟨h, hq⟩ := HH.out
  have HIS : Hid (isAt S.L b i = hsI S.L b) := is_hs hq.sr hfd
  have kk : Kp w w1 := K0.out.trans k1
  have r1 := (k1.block w.heap.size (heap_lt R0.out)).trans R0.out
  have z0 : w1.cell? ⟨w.heap.size, 0, none⟩ = some (.int .i64 0) := cell_of r1 0
  have z1 : w1.cell? ⟨w.heap.size, 1, none⟩ = some (.string ⟨#[]⟩) := cell_of r1 1
  have z2 : w1.cell? ⟨w.heap.size, 2, none⟩ = some (.int .i64 0) := cell_of r1 2
  have fz := frozen_of r1
  have fz0 := fz 0
  have fz1 := fz 1
  have fz2 := fz 2
  have HR1 : Hid (w1.heap[w.heap.size]? = some (.cells #[.int .i64 0, .string ⟨#[]⟩, .int .i64 0] 31 (0, 0))) := r1
  have KK : Hid (Kp w w1) := kk
  clear R0 K0 r1 k1 fz kk
  cases ha : isAt S.L b i with
  | true =>
    have HB : Hid (hsI S.L b = true) := HIS.out.symm.trans ha
    obtain ⟨A, y, B, e1, e2, e3, e4, e5, e6⟩ := fd_hit hq.sr hfd ha
    have hil : i < S.L.length := by rw [e1]; simp; omega
    obtain ⟨g, cap, hT, hga, hle, hcp, c0, c2, d0, d1, d2, f1, f2⟩ := (h.kept KK.out).at hil
    rw [e3] at d0 d1 d2
    obtain ⟨v, t1, q1, q2, q3, q4, q5⟩ := h.kept KK.out
    have hvv : v = .slice (some ⟨g, 0, none⟩) S.L.length cap := by
      have := cell_of q1 0
      rw [c0] at this
      simpa using this.symm
    -- the box of the item that is taken
    obtain ⟨W, hW⟩ : ∃ W, W = w1.alloc (.cells #[.int .i64 y.b, .string y.d, .int .i64 y.g] 31) := ⟨_, rfl⟩
    have kW : Kp w1 W := by rw [hW]; exact (Kp.refl _).alloc _
    have rW : W.heap[w1.heap.size]? = some (.cells #[.int .i64 y.b, .string y.d, .int .i64 y.g] 31 (0, 0)) := by rw [hW]; unfold World.alloc; exact Array.getElem?_push_size
    have q1' := (kW.block a (heap_lt q1)).trans q1
    have hwl : w.heap.size < w1.heap.size := heap_lt HR1.out
    have rZ := (kW.block w.heap.size hwl).trans HR1.out
    have hD := delete_any w0.heap.size v S.L i W (q3.kept kW) hil
    have hga2 : g < w.heap.size := by
      have := OL.qx.low h
      exact this g (by rw [hT]; simp)
    have hD2 : Calls Try.prog 29 #[.slice (some ⟨g, 0, none⟩) S.L.length cap, .int .i64 i, .int .i64 ((i : Int) + 1)] W fun e w' => ∃ p' n' c', e = .returned (.slice p' n' c') ∧ w'.cell? ⟨a, 0, none⟩ = some v ∧ w'.frozen? ⟨a, 0, none⟩ = false ∧ Hid (Oi w' w0.heap.size 31 (.slice p' n' c') (del S.L i) ∧ Sp v.ownBlock.toList W w' ∧ (Value.slice p' n' c').ownBlock = v.ownBlock) := by
      rw [← hvv]
      refine hD.mono ?_
      rintro e w' ⟨v', rfl, o, s, hv⟩
      have hn : a ∉ v.ownBlock.toList := fun e => q4 (by simpa using e)
      have hh1 : w'.heap[a]? = _ := (s.block a (heap_lt q1') hn).trans q1'
      obtain ⟨p', n', c', rfl⟩ : ∃ p' n' c', v' = .slice p' n' c' := by
        rcases o.row with ⟨rfl, _⟩ | ⟨g, cap, cs, rfl, _⟩ <;> exact ⟨_, _, _, rfl⟩
      exact ⟨p', n', c', rfl, cell_of hh1 0, frozen_of hh1 0, o, s, hv⟩
    have HQ : Hid (T = a :: v.ownBlock.toList ∧ W.heap[a]? = some (.cells #[v, .int .i64 S.m, .int .i64 S.c] 65 (0, 0)) ∧ w0.heap.size ≤ a ∧ v.ownBlock ≠ some a ∧ w0.heap.size ≤ W.heap.size ∧ Kp w W ∧ S.L = A ++ y :: B ∧ A.length = i ∧ y.b = b ∧ (∀ x ∈ A, x.b < b) ∧ (∀ x ∈ B, b < x.b) ∧ W.heap[w1.heap.size]? = some (.cells #[.int .i64 y.b, .string y.d, .int .i64 y.g] 31 (0, 0)) ∧ W.heap[w.heap.size]? = some (.cells #[.int .i64 0, .string ⟨#[]⟩, .int .i64 0] 31 (0, 0)) ∧ v.ownBlock = some g ∧ g < w.heap.size ∧ a < w.heap.size ∧ w.heap.size < w1.heap.size) :=
      ⟨t1, q1', q2, q4, Nat.le_trans q5 kW.size, KK.out.trans kW, e1, e2, e4, e5, e6, rW, rZ, by rw [hvv]; rfl, hga2, OL.qx.low h a (by rw [hT]; simp), hwl⟩
    have HG : Hid (gtI S.L b = y) := by show gtI S.L b = y; unfold gtI; rw [e1, get_hit e5 e4]; rfl
    have c0' : W.cell? ⟨a, 0, none⟩ = some (.slice (some ⟨g, 0, none⟩) S.L.length cap) := kW.held c0
    obtain ⟨n, hn⟩ : ∃ n, n = S.L.length := ⟨_, rfl⟩
    rw [← hn] at c0 hil hle hD2 c0'
    have HW : Hid (W = w1.alloc (.cells #[.int .i64 y.b, .string y.d, .int .i64 y.g] 31)) := hW
    rw [hW] at hD2 c0'
    have hi2 : (i : Int) < (n : Int) := by omega
    have hi3 : IntKind.i64.wrap ((i : Int) + 1) = (i : Int) + 1 := by rw [IntKind.wrap_i64]; unfold maxLen at *; omega
    clear h hq HH hF hfd ha e1 e2 e3 e4 e5 e6 f1 f2 hn c2 hD hW kW rW q1 q1' q2 q3 q4 q5 t1 hvv hT rZ hga2 HR1
    go_wp2_with fail
    refine hD2.mono ?_; rintro e w3 ⟨p', n', c', rfl, d3, f3, HO⟩
    obtain ⟨o1, o2, o3⟩ := HO.out
    rw [← HW.out] at o2
    obtain ⟨s1, s2, s3, s4, s5, s6, s7, s8, s9, s10, s11, s12, s13, s14, s15, s16, s17⟩ := HQ.out
    have nb : ∀ x, x ≠ g → x ∉ v.ownBlock.toList := fun x hx e => hx (by rw [s14] at e; simpa using e)
    have t12 := (o2.block _ (heap_lt s12) (nb _ (by omega))).trans s12
    have t13 := (o2.block _ (heap_lt s13) (nb _ (by omega))).trans s13
    have x0 : w3.cell? ⟨w1.heap.size, 0, none⟩ = some (.int .i64 y.b) := cell_of t12 0
    have x1 : w3.cell? ⟨w1.heap.size, 1, none⟩ = some (.string y.d) := cell_of t12 1
    have x2 : w3.cell? ⟨w1.heap.size, 2, none⟩ = some (.int .i64 y.g) := cell_of t12 2
    have hne : ∀ (t : Nat) (u : Value) (j : Nat), t ≠ a → (w3.setCell ⟨a, 0, none⟩ u).cell? ⟨t, j, none⟩ = w3.cell? ⟨t, j, none⟩ := fun t u j ht => World.cell?_setCell_other _ _ _ _ (by intro e; have := congrArg Addr.block e; simp only at this; exact ht (by omega))
    have X0 := (hne w1.heap.size (.slice p' n' c') 0 (by omega)).trans x0
    have X1 := (hne w1.heap.size (.slice p' n' c') 1 (by omega)).trans x1
    have X2 := (hne w1.heap.size (.slice p' n' c') 2 (by omega)).trans x2
    have Z0 := (hne w.heap.size (.slice p' n' c') 0 (by omega)).trans (cell_of t13 0)
    have Z1 := (hne w.heap.size (.slice p' n' c') 1 (by omega)).trans (cell_of t13 1)
    have Z2 := (hne w.heap.size (.slice p' n' c') 2 (by omega)).trans (cell_of t13 2)
    have F : ∀ j, (w3.setCell ⟨a, 0, none⟩ (.slice p' n' c')).frozen? ⟨w.heap.size, j, none⟩ = false := fun j => by rw [World.frozen?_setCell]; exact frozen_of t13 j
    have F0 := F 0
    have F1 := F 1
    have F2 := F 2
    have HZ : Hid (Oi w3 w0.heap.size 31 (.slice p' n' c') (del S.L i) ∧ Sp v.ownBlock.toList W w3 ∧ (Value.slice p' n' c').ownBlock = v.ownBlock) := ⟨o1, o2, o3⟩
    have HN : Hid ((∀ t u j, t ≠ a → (w3.setCell ⟨a, 0, none⟩ u).cell? ⟨t, j, none⟩ = w3.cell? ⟨t, j, none⟩) ∧ w3.heap[w.heap.size]? = some (.cells #[.int .i64 0, .string ⟨#[]⟩, .int .i64 0] 31 (0, 0))) := ⟨hne, t13⟩
    have Z0' : (w3.setCell ⟨a, 0, none⟩ (.slice p' n' c')).cell? ⟨w.heap.size, 0, none⟩ = some (.int .i64 0) := Z0
    have Z1' : (w3.setCell ⟨a, 0, none⟩ (.slice p' n' c')).cell? ⟨w.heap.size, 1, none⟩ = some (.string ⟨#[]⟩) := Z1
    have Z2' : (w3.setCell ⟨a, 0, none⟩ (.slice p' n' c')).cell? ⟨w.heap.size, 2, none⟩ = some (.int .i64 0) := Z2
    clear o1 o2 o3 HO s1 s2 s3 s4 s5 s6 s7 s8 s9 s10 s11 s12 s13 s14 s15 s16 s17 nb t12 t13 hne F x0 x1 x2 Z0 Z1 Z2 HW hD2 c0 c0' d0 d1 d2 fz0 fz1 fz2 z0 z1 z2
    go_wp2
    obtain ⟨o1, o2, o3⟩ := HZ.out
    obtain ⟨s1, s2, s3, s4, s5, s6, s7, s8, s9, s10, s11, s12, s13, s14, s15, s16, s17⟩ := HQ.out
    have hne := HN.out.1
    have hb3 : (w3.setCell ⟨a, 0, none⟩ (.slice p' n' c')).heap[w.heap.size]? = some (.cells #[.int .i64 0, .string ⟨#[]⟩, .int .i64 0] 31 (0, 0)) := by
      have k2 : Sp [a] w3 (w3.setCell ⟨a, 0, none⟩ (.slice p' n' c')) := (Sp.refl _ _).set a _ (by simp) _
      exact (k2.block _ (heap_lt HN.out.2) (by simp; omega)).trans HN.out.2
    obtain ⟨b1, b2⟩ := box3 hb3 (.int .i64 y.b) (.string y.d) (.int .i64 y.g)
    refine bodyPost_ret (results_it2 rfl _ _ w.heap.size y (.bool true) rfl rfl (cell_of b1 0) (cell_of b1 1) (cell_of b1 2)) rfl ?_
    refine ⟨by rw [HG.out, HB.out], ?_⟩
    obtain ⟨q1, q2, q3⟩ := QX.items s2 s3 s4 s5 o2 o1 (.inl o3)
    have hd : del S.L i = delL S.L b := by rw [s7, del_hit s10 s9 s11]; unfold del; rw [← s8, List.take_left, show A.length + 1 = (A ++ [y]).length by simp, show A ++ y :: B = (A ++ [y]) ++ B by simp, List.drop_left]
    rw [hd, o3, ← s1] at q1
    rw [← s1] at q2
    have hT : ∀ t ∈ T, t < w.heap.size := fun t ht => by rw [s1, s14] at ht; simp at ht; omega
    refine ⟨T, OL.qx.sp q1 b2 (fun t ht e => by have := hT t ht; simp at e; omega), ?_, Nw.refl _ _⟩
    exact ((s6.sp _).trans q2).then b2 (fun t ht => .inr (by simp at ht; omega))
  | false =>
    have HB : Hid (hsI S.L b = false) := HIS.out.symm.trans ha
    have HG : Hid (gtI S.L b = iz) := by
      show gtI S.L b = iz
      rw [is_hs hq.sr hfd] at ha
      unfold gtI; rw [get_miss ha]; rfl
    have HD : Hid (QX w0 w a T ⟨delL S.L b, S.m, S.c⟩) := by
      show QX w0 w a T ⟨delL S.L b, S.m, S.c⟩
      obtain ⟨A, B, e1, e2, e3, e4⟩ := fd_miss hfd hq.sr ha
      rw [filt_all (fun x hx => by
        rw [e1] at hx
        rcases List.mem_append.1 hx with hx | hx
        · have := e3 x hx; omega
        · have := e4 x hx; omega)]
      exact h
    clear h hq HH hF hfd ha
    go_wp2
    obtain ⟨b1, b2⟩ := box3 HR1.out (.int .i64 0) (.string ⟨#[]⟩) (.int .i64 0)
    refine bodyPost_ret (results_it2 rfl _ _ w.heap.size iz (.bool false) rfl rfl (cell_of b1 0) (cell_of b1 1) (cell_of b1 2)) rfl ?_
    refine ⟨by rw [HG.out, HB.out], ?_⟩
    have q1 := HD.out.kept KK.out
    refine ⟨T, OL.qx.sp q1 b2 (fun t ht e => by have := OL.qx.low HD.out t ht; simp at e; omega), ?_, Nw.refl _ _⟩
    exact (KK.out.sp _).then b2 (fun t ht => .inr (by simp at ht; omega))

set_option maxRecDepth 100000 in
set_option maxHeartbeats 2000000 in
theorem clone_any (base : Nat) (v : Value) (l : List It) (w : World) (h : Oi w base 31 v l) (hl : l.length ≤ 1000) : Calls Try.prog 40 #[v] w fun e w' => ∃ u, e = .returned u ∧ Oi w' w.heap.size 31 u l ∧ Kp w w' := by
  rcases h.row with ⟨rfl, rfl⟩ | ⟨g, cap, cs, rfl, _, _, hle, hcm, _⟩
  · have heq := Lib.run_eql_slice_nil (P := Try.prog) w 60 31 none 0 0 0 0 elyQ.u
    simp only [Option.isNone_none] at heq
    go_enter Try.func40, Try.ntmps40
    go_wp2
    go_ret
    exact ⟨_, rfl, Oi.nil _ _ _, Kp.refl w⟩
  · obtain ⟨W, hW⟩ : ∃ W, W = w.alloc (.cells #[] 31) := ⟨_, rfl⟩
    have kW : Kp w W := by rw [hW]; exact (Kp.refl w).alloc _
    have HI : Hid (ItIn W (.slice (some ⟨g, 0, none⟩) l.length cap) l) := h.it.kept kW
    have HO : Hid (Oi W w.heap.size 31 (.slice (some ⟨w.heap.size, 0, none⟩) 0 0) []) := Oi.of (cs := []) (cap := 0) (by rw [hW]; exact Rr.new w [] _ 0 rfl _ rfl) (Nat.le_refl _) (Nat.le_refl _) (by unfold maxLen; omega) rfl _ rfl
    have KW : Hid (Kp w W) := kW
    rw [hW] at HI HO KW
    obtain ⟨n, hn⟩ : ∃ n, n = l.length := ⟨_, rfl⟩
    rw [← hn] at HI hl hle ⊢
    have HN : Hid (n = l.length) := hn
    unfold maxLen at hcm
    have heq := Lib.run_eql_slice_nil (P := Try.prog) w 60 31 (some ⟨g, 0, none⟩) n cap 0 0 elyQ.u
    simp only [Option.isNone_some] at heq
    clear h kW hW hn
    go_enter Try.func40, Try.ntmps40
    go_wp2_with (at_builtin; refine wpList_append_it rfl _ _ 60 rfl w.heap.size 31 elyQ _ [] rfl HO.out _ l rfl HI.out ?c1 ?c2 ?_; rotate_left; rotate_left; intro u2 w4 ho2 hg2 hr2)
    case c1 => have h1 : n = l.length := HN.out; rw [← h1]; simp; omega
    case c2 => simp
    go_ret
    refine ⟨_, rfl, ho2, KW.out.grown hg2 (fun k hk => ?_)⟩
    exact Nat.le_of_eq (Option.some.inj hk)
set_option maxRecDepth 100000 in
theorem qitems_any {w0 w : World} {a : Nat} {T : List Nat} {S : QS} (h : QX w0 w a T S) (hl : S.L.length ≤ 1000) : Calls Try.prog 26 #[.pointer (some ⟨a, 0, none⟩)] w fun e w' => ∃ u, e = .returned u ∧ Oi w' w.heap.size 31 u S.L ∧ Kp w w' := by
  obtain ⟨v, rfl, h1, h2, h3, h4, h5⟩ := h
  have c0 : w.cell? ⟨a, 0, none⟩ = some v := cell_of h1 0
  have hC := clone_any w0.heap.size v S.L w h3 hl
  clear h1 h2 h3 h4 h5
  go_enter Try.func26, Try.ntmps26
  go_wp2_with fail
  refine hC.mono ?_; rintro e w1 ⟨u, rfl, ho, k⟩
  go_wp2
  go_ret
  exact ⟨_, rfl, ho, k⟩

end Go.Proofs.Ytdfdoinhkjoalaa
