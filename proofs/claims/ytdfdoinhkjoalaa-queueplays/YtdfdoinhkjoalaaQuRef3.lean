/-
  Contracts of the document's Oldest and Take. Condition: that the object lies in memory as RX says.
-/
import Derived.Test.YtdfdoinhkjoalaaQuRef2
import Derived.Deep.DeepCutAuto
import Derived.Deep.CutBlock
namespace Go.Proofs.Ytdfdoinhkjoalaa
open Go.RowKit Plain
set_option linter.unusedVariables false

theorem results_rt2 {fn : Func} {t u : Tmp} (h : fn.results = #[.cell t 34, .tmp u]) (tmps : Array Value) (w : World) (b : Nat) (x : It) (v : Value) (hp : tmps.getD t undef = .pointer (some ⟨b, 0, none⟩)) (hx : tmps.getD u undef = v) (h0 : w.cell? ⟨b, 0, none⟩ = some (.int .i64 x.b)) (h1 : w.cell? ⟨b, 1, none⟩ = some (.string x.d)) (h2 : w.cell? ⟨b, 2, none⟩ = some (.int .i64 x.g)) :
    (results fn tmps).run Try.prog w = .ok (.tuple #[itV x, v]) w := by
  rw [results_cell_tmp h]
  rw [hp, hx]
  simp [asAddr, load_three _ _ _ h0 h1 h2 34 _ Try.underlying34 (ely_map elyR), itV]
set_option maxRecDepth 100000 in
set_option maxHeartbeats 2000000 in
theorem rold_any {w0 w : World} {a : Nat} {T : List Nat} {S : QS} (h : RX w0 w a T S) (hl : S.L.length ≤ 1000) : Calls Try.prog 32 #[.pointer (some ⟨a, 0, none⟩)] w fun e w' => e = .returned (.tuple #[itV (S.L.getD 0 iz), .bool (decide (0 < S.L.length))]) ∧ Kp w w' := by
  have k0 : Kp w (w.alloc (.cells #[.int .i64 0, .string ⟨#[]⟩, .int .i64 0] 34)) := (Kp.refl w).alloc _
  have r0 := new_box w (.int .i64 0) (.string ⟨#[]⟩) (.int .i64 0) 34
  obtain ⟨p, g, cap, hp, hle, hcp, c0, c1, c2, f1, hcl⟩ := (h.kept k0).cells
  have z0 : (w.alloc (.cells #[.int .i64 0, .string ⟨#[]⟩, .int .i64 0] 34)).cell? ⟨w.heap.size, 0, none⟩ = some (.int .i64 0) := cell_of r0 0
  have z1 : (w.alloc (.cells #[.int .i64 0, .string ⟨#[]⟩, .int .i64 0] 34)).cell? ⟨w.heap.size, 1, none⟩ = some (.string ⟨#[]⟩) := cell_of r0 1
  have z2 : (w.alloc (.cells #[.int .i64 0, .string ⟨#[]⟩, .int .i64 0] 34)).cell? ⟨w.heap.size, 2, none⟩ = some (.int .i64 0) := cell_of r0 2
  have ff := frozen_of r0
  have f0 := ff 0
  have f1' := ff 1
  have f2 := ff 2
  have HR : Hid (Kp w (w.alloc (.cells #[.int .i64 0, .string ⟨#[]⟩, .int .i64 0] 34)) ∧ (w.alloc (.cells #[.int .i64 0, .string ⟨#[]⟩, .int .i64 0] 34)).heap[w.heap.size]? = some (.cells #[.int .i64 0, .string ⟨#[]⟩, .int .i64 0] 34 (0, 0))) := ⟨k0, r0⟩
  obtain ⟨l, hL⟩ : ∃ l, l = S.L := ⟨_, rfl⟩
  rw [← hL] at hp hle c1 hcl hl ⊢
  clear h hL k0 r0 ff f1 c0 c2
  by_cases hn : 0 < l.length
  · obtain ⟨rfl, _, _, _⟩ := hp hn
    obtain ⟨d0, d1, d2⟩ := hcl 0 hn
    simp only [Nat.zero_mul, Nat.zero_add] at d0 d1 d2
    obtain ⟨y, hy⟩ : ∃ y, y = l.getD 0 iz := ⟨_, rfl⟩
    rw [← hy] at d0 d1 d2 ⊢
    rw [decide_eq_true hn]
    obtain ⟨n, hnn⟩ : ∃ n, n = l.length := ⟨_, rfl⟩
    rw [← hnn] at c1 hle hl hn
    have hne : ¬ ((n : Int) = 0) := by omega
    have hn0 : (0 : Int) < (n : Int) := by omega
    clear hy hnn hcl hp
    go_enter Try.func32, Try.ntmps32
    go_wp2
    have b1 := new_box w (.int .i64 y.b) (.string y.d) (.int .i64 y.g) 34
    refine bodyPost_ret (results_rt2 rfl _ _ w.heap.size y (.bool true) rfl rfl (cell_of b1 0) (cell_of b1 1) (cell_of b1 2)) rfl ?_
    exact ⟨rfl, (Kp.refl w).alloc _⟩
  · have h0 : l = [] := List.eq_nil_of_length_eq_zero (by omega)
    subst h0
    simp only [List.length_nil] at c1 ⊢
    clear hcl hp
    go_enter Try.func32, Try.ntmps32
    go_wp2
    have b1 := new_box w (.int .i64 0) (.string ⟨#[]⟩) (.int .i64 0) 34
    refine bodyPost_ret (results_rt2 rfl _ _ w.heap.size iz (.bool false) rfl rfl (cell_of b1 0) (cell_of b1 1) (cell_of b1 2)) rfl ?_
    exact ⟨rfl, (Kp.refl w).alloc _⟩

/-! ### Take -/
def dl (l : List It) (i k : Nat) : List It := if k ≤ i then l.take k else l.take i ++ (l.drop (i + 1)).take (k - (i + 1))
theorem dl_skip (l : List It) (i : Nat) : dl l i (i + 1) = dl l i i := by unfold dl; rw [if_neg (by omega), if_pos (by omega)]; simp
theorem dl_next (l : List It) (i k : Nat) (h : k ≠ i) (hk : k < l.length) : dl l i (k + 1) = dl l i k ++ [l.getD k iz] := by
  unfold dl
  by_cases h1 : k < i
  · rw [if_pos (by omega), if_pos (by omega), take_it hk]
  · rw [if_neg (by omega), if_neg (by omega), List.append_assoc]
    congr 1
    have e : k + 1 - (i + 1) = (k - (i + 1)) + 1 := by omega
    have hk2 : k - (i + 1) < (l.drop (i + 1)).length := by rw [List.length_drop]; omega
    rw [e, take_it hk2]
    congr 2
    rw [List.getD_eq_getElem?_getD, List.getD_eq_getElem?_getD, List.getElem?_drop]
    congr 2
    omega
theorem dl_end (l : List It) (i : Nat) (h : i < l.length) : dl l i l.length = del l i := by
  unfold dl del
  rw [if_neg (by omega)]
  congr 1
  exact List.take_of_length_le (by rw [List.length_drop]; omega)
theorem dl_len (l : List It) (i k : Nat) : (dl l i k).length ≤ k := by
  unfold dl
  split
  · rw [List.length_take]; omega
  · rw [List.length_append, List.length_take, List.length_take, List.length_drop]; omega
def rdL (b : Int) : List It → List It
  | [] => []
  | x :: l => if x.b = b then l else x :: rdL b l
theorem rd_hit {A B : List It} {y : It} {b : Int} (hA : ∀ x ∈ A, x.b ≠ b) (hy : y.b = b) : rdL b (A ++ y :: B) = A ++ B := by
  induction A with
  | nil => rw [List.nil_append, rdL, if_pos hy]; rfl
  | cons x A ih => rw [List.cons_append, rdL, if_neg (hA x (by simp)), ih (fun z hz => hA z (by simp [hz]))]; rfl
theorem rd_miss {A : List It} {b : Int} (hA : ∀ x ∈ A, x.b ≠ b) : rdL b A = A := by
  induction A with
  | nil => rfl
  | cons x A ih => rw [rdL, if_neg (hA x (by simp)), ih (fun z hz => hA z (by simp [hz]))]
theorem get_hitN {A B : List It} {y : It} {b : Int} (hA : ∀ x ∈ A, x.b ≠ b) (hy : y.b = b) : getL (A ++ y :: B) b = some y := by
  unfold getL
  rw [List.find?_append, List.find?_eq_none.2 (fun x hx => by simpa using hA x hx)]
  simp [hy]
set_option maxRecDepth 100000 in
set_option maxHeartbeats 4000000 in
theorem rtake_any {w0 w : World} {a : Nat} {T : List Nat} {S : QS} (h : RX w0 w a T S) (hl : S.L.length ≤ 1000) (b : Int) : Calls Try.prog 12 #[.pointer (some ⟨a, 0, none⟩), .int .i64 b] w fun e w' => e = .returned (.tuple #[itV (gtI S.L b), .bool (hsI S.L b)]) ∧ Nz RX w0 w w' a T ⟨rdL b S.L, S.m, S.c⟩ := by
  have k0 : Kp w (w.alloc (.cells #[.int .i64 0, .string ⟨#[]⟩, .int .i64 0] 34)) := (Kp.refl w).alloc _
  have r0 := new_box w (.int .i64 0) (.string ⟨#[]⟩) (.int .i64 0) 34
  have hF := rfind_any (h.kept k0) hl b
  have R0 : Hid (RX w0 w a T S ∧ Kp w (w.alloc (.cells #[.int .i64 0, .string ⟨#[]⟩, .int .i64 0] 34)) ∧ (w.alloc (.cells #[.int .i64 0, .string ⟨#[]⟩, .int .i64 0] 34)).heap[w.heap.size]? = some (.cells #[.int .i64 0, .string ⟨#[]⟩, .int .i64 0] 34 (0, 0))) := ⟨h, k0, r0⟩
  clear h k0 r0
  go_enter Try.func12, Try.ntmps12
  go_wp2_with fail
  refine hF.mono ?_; rintro e w1 ⟨z, rfl, hfi, k1⟩
  obtain ⟨h, k0, r0⟩ := R0.out
  have kk : Kp w w1 := k0.trans k1
  have r1 := (k1.block w.heap.size (heap_lt r0)).trans r0
  clear hF R0 k0 r0 k1
  rcases hfi with ⟨rfl, hno⟩ | ⟨A, y, B, e1, rfl, e4, e5⟩
  · have z0 : w1.cell? ⟨w.heap.size, 0, none⟩ = some (.int .i64 0) := cell_of r1 0
    have z1 : w1.cell? ⟨w.heap.size, 1, none⟩ = some (.string ⟨#[]⟩) := cell_of r1 1
    have z2 : w1.cell? ⟨w.heap.size, 2, none⟩ = some (.int .i64 0) := cell_of r1 2
    have ff := frozen_of r1
    have f0 := ff 0
    have f1 := ff 1
    have f2 := ff 2
    have hh : hsI S.L b = false := by unfold hsI; rw [List.any_eq_false]; intro x hx; simpa using hno x hx
    have HR : Hid (Kp w w1 ∧ w1.heap[w.heap.size]? = some (.cells #[.int .i64 0, .string ⟨#[]⟩, .int .i64 0] 34 (0, 0)) ∧ hsI S.L b = false ∧ gtI S.L b = iz ∧ rdL b S.L = S.L ∧ RX w0 w a T S) := ⟨kk, r1, hh, by unfold gtI; rw [get_miss hh]; rfl, rd_miss hno, h⟩
    clear h kk r1 ff hno hh
    go_wp2
    obtain ⟨q1, q2, q3, q4, q5, q6⟩ := HR.out
    obtain ⟨b1, b2⟩ := box3 q2 (.int .i64 0) (.string ⟨#[]⟩) (.int .i64 0)
    refine bodyPost_ret (results_rt2 rfl _ _ w.heap.size iz (.bool false) rfl rfl (cell_of b1 0) (cell_of b1 1) (cell_of b1 2)) rfl ?_
    refine ⟨by rw [q3, q4], T, ?_, (q1.sp _).then b2 (fun t ht => .inr (by simp at ht; omega)), Nw.refl _ _⟩
    rw [q5]
    exact OL.rx.sp (q6.kept q1) b2 (fun t ht e => by have := OL.rx.low q6 t ht; simp at e; omega)
  · have hil : A.length < S.L.length := by rw [e1]; simp
    have hy : S.L.getD A.length iz = y := by rw [e1, List.getD_eq_getElem?_getD, List.getElem?_append_right (Nat.le_refl _)]; simp
    obtain ⟨p, g, cap, hp, hle, hcp, c0, c1, c2, f1, hcl⟩ := (h.kept kk).cells
    obtain ⟨rfl, hT, hga, f2⟩ := hp (by omega)
    obtain ⟨d0, d1, d2⟩ := hcl A.length hil
    rw [hy] at d0 d1 d2
    obtain ⟨i, hi⟩ : ∃ i, i = A.length := ⟨_, rfl⟩
    rw [← hi] at hil d0 d1 d2 ⊢
    obtain ⟨W, hW⟩ : ∃ W, W = w1.alloc (.cells #[.int .i64 y.b, .string y.d, .int .i64 y.g] 34) := ⟨_, rfl⟩
    have kW : Kp w1 W := by rw [hW]; exact (Kp.refl w1).alloc _
    have rW : W.heap[w1.heap.size]? = some (.cells #[.int .i64 y.b, .string y.d, .int .i64 y.g] 34 (0, 0)) := by rw [hW]; exact new_box w1 _ _ _ _
    have rZ := (kW.block w.heap.size (heap_lt r1)).trans r1
    have c1W := kW.held c1
    obtain ⟨n, hn⟩ : ∃ n, n = S.L.length := ⟨_, rfl⟩
    have HCL : Hid (∀ j, j < n → W.cell? ⟨g, j * 3, none⟩ = some (.int .i64 (S.L.getD j iz).b) ∧ W.cell? ⟨g, j * 3 + 1, none⟩ = some (.string (S.L.getD j iz).d) ∧ W.cell? ⟨g, j * 3 + 2, none⟩ = some (.int .i64 (S.L.getD j iz).g)) := fun j hj => by
      obtain ⟨u0, u1, u2⟩ := hcl j (by omega)
      exact ⟨kW.held u0, kW.held u1, kW.held u2⟩
    have HE : Hid (RX w0 W a T S ∧ Kp w W ∧ n = S.L.length ∧ S.L = A ++ y :: B ∧ i = A.length ∧ y.b = b ∧ (∀ x ∈ A, x.b ≠ b) ∧ W.heap[w1.heap.size]? = some (.cells #[.int .i64 y.b, .string y.d, .int .i64 y.g] 34 (0, 0)) ∧ W.heap[w.heap.size]? = some (.cells #[.int .i64 0, .string ⟨#[]⟩, .int .i64 0] 34 (0, 0)) ∧ T = [a, g] ∧ w.heap.size ≤ w1.heap.size ∧ (∀ t ∈ T, t < w.heap.size)) := ⟨(h.kept kk).kept kW, kk.trans kW, hn, e1, hi, e4, e5, rW, rZ, hT, kk.size, OL.rx.low h⟩
    have HW : Hid (W = w1.alloc (.cells #[.int .i64 y.b, .string y.d, .int .i64 y.g] 34)) := hW
    rw [← hn] at c1 hil hle hl c1W
    have hi2 : (i : Int) < (n : Int) := by omega
    have hi0 : ¬ ((i : Int) < 0) := by omega
    clear h kk r1 e1 e4 e5 hy hp c0 c2 f1 hcl hT hga f2 hi hW kW rW rZ hn
    go_wp2
    rw [← HW.out]
    clear HW c1 d0 d1 d2
    go_loopw [9, 8] (fun q r wr => ∃ k : Nat, q = .int .i64 k ∧ k ≤ n ∧ Hid (Oi wr W.heap.size 34 r (dl S.L i k)) ∧ Hid (Kp W wr)) (fun q _ _ => n - (intOf q).toNat)
    case atStart => exact ⟨0, rfl, by omega, (by unfold dl; simp; exact Oi.nil _ _ _ : Oi W W.heap.size 34 (.slice none 0 0) (dl S.L i 0)), Kp.refl W⟩
    case round =>
      obtain ⟨k, rfl, hk, HO, HK⟩ := hrel
      have c1r := HK.out.held c1W
      by_cases hkn : k < n
      · have hk3 : (k : Int) < (n : Int) := by omega
        by_cases hki : k = i
        · subst hki
          have HO2 : Hid (Oi wr W.heap.size 34 u8 (dl S.L k (k + 1))) := by show Oi _ _ _ _ _; rw [dl_skip]; exact HO.out
          clear HO
          go_wp2
          go_roundw
          case rel => exact ⟨k + 1, by go_num, by omega, HO2, HK⟩
          case measure => simp [intOf]; omega
        · have hki2 : ¬ ((k : Int) = (i : Int)) := by omega
          obtain ⟨u0, u1, u2⟩ := HCL.out k hkn
          have u0 := HK.out.held u0
          have u1 := HK.out.held u1
          have u2 := HK.out.held u2
          obtain ⟨x, hx⟩ : ∃ x, x = S.L.getD k iz := ⟨_, rfl⟩
          rw [← hx] at u0 u1 u2
          have hdn : dl S.L i (k + 1) = dl S.L i k ++ [x] := by rw [hx]; exact dl_next S.L i k hki (by have := HE.out.2.2.1; omega)
          have HDN := hid hdn
          have hlen := dl_len S.L i k
          obtain ⟨V, hV⟩ : ∃ V, V = wr.alloc (.cells #[.int .i64 x.b, .string x.d, .int .i64 x.g] 34) := ⟨_, rfl⟩
          have HIt : Hid (ItIn V (.slice (some ⟨wr.heap.size, 0, none⟩) 1 1) [x]) := by show ItIn _ _ _; rw [hV]; exact ItIn.lit1 wr x _ _ rfl
          have kV : Kp wr V := by rw [hV]; exact (Kp.refl wr).alloc _
          have HOV : Hid (Oi V W.heap.size 34 u8 (dl S.L i k)) := HO.out.kept kV
          have HKV : Hid (Kp W V) := HK.out.trans kV
          rw [hV] at HIt HOV HKV
          clear hx hdn HO kV hV
          go_wp2_with (at_builtin; refine wpList_append_it rfl _ _ 44 rfl W.heap.size 34 elyR _ (dl S.L i k) rfl HOV.out _ [x] rfl HIt.out ?c1 HKV.out.size ?_; rotate_left; intro u9 w4 ho2 hg2 hr2)
          case c1 => simp; omega
          have HO4 : Hid (Oi w4 W.heap.size 34 u9 (dl S.L i (k + 1))) := by show Oi _ _ _ _ _; rw [HDN.out]; exact ho2
          have HK4 : Hid (Kp W w4) := HKV.out.grown hg2 (fun q hq => (HOV.out.lt q hq).1)
          clear ho2 hg2 hr2 HOV HKV HIt HDN u0 u1 u2 c1r HK
          go_wp2
          go_roundw
          case rel => exact ⟨k + 1, by go_num, by omega, HO4, HK4⟩
          case measure => simp [intOf]; omega
      · obtain rfl : k = n := by omega
        obtain ⟨g1, g2, g3, g4, g5, g6, g7, g8, g9, g10, g11, g12⟩ := HE.out
        have ho := HO.out
        rw [g3, dl_end S.L i (by omega)] at ho
        obtain ⟨v, t1, q1, q2, q3, q4, q5⟩ := g1
        obtain ⟨p', n', c', rfl⟩ : ∃ p' n' c', u8 = .slice p' n' c' := by
          rcases ho.row with ⟨rfl, _⟩ | ⟨g, cap, cs, rfl, _⟩ <;> exact ⟨_, _, _, rfl⟩
        have hWa : a < w.heap.size := g12 a (by rw [g10]; simp)
        have ho0 : Oi wr w0.heap.size 34 (.slice p' n' c') (del S.L i) := by
          refine ⟨ho.1, ho.2.imp id ?_⟩
          rintro ⟨g, cap, cur, h1, h2, h3⟩
          exact ⟨g, cap, cur, h1, Nat.le_trans q5 h2, h3⟩
        obtain ⟨j1, j2, j3⟩ := RX.items (S := S) q1 q2 q4 q5 (HK.out.sp _) ho0 (.inr (fun N hN => (ho.lt N hN).1))
        rw [← t1] at j2 j3
        have q1r := (HK.out.block _ (heap_lt q1)).trans q1
        have rW := (HK.out.block _ (heap_lt g8)).trans g8
        have rZ := (HK.out.block _ (heap_lt g9)).trans g9
        have c1v : wr.cell? ⟨a, 1, none⟩ = some v := cell_of q1r 1
        have fa := frozen_of q1r 1
        obtain ⟨W5, hW5⟩ : ∃ W5, W5 = wr.setCell ⟨a, 1, none⟩ (.slice p' n' c') := ⟨_, rfl⟩
        have s5 : Sp [a] wr W5 := by rw [hW5]; exact (Sp.refl _ _).set a _ (by simp) _
        have rW5 := (s5.block _ (heap_lt rW) (by simp; omega)).trans rW
        have rZ5 := (s5.block _ (heap_lt rZ) (by simp; omega)).trans rZ
        have x0 : W5.cell? ⟨w1.heap.size, 0, none⟩ = some (.int .i64 y.b) := cell_of rW5 0
        have x1 : W5.cell? ⟨w1.heap.size, 1, none⟩ = some (.string y.d) := cell_of rW5 1
        have x2 : W5.cell? ⟨w1.heap.size, 2, none⟩ = some (.int .i64 y.g) := cell_of rW5 2
        have z0 : W5.cell? ⟨w.heap.size, 0, none⟩ = some (.int .i64 0) := cell_of rZ5 0
        have z1 : W5.cell? ⟨w.heap.size, 1, none⟩ = some (.string ⟨#[]⟩) := cell_of rZ5 1
        have z2 : W5.cell? ⟨w.heap.size, 2, none⟩ = some (.int .i64 0) := cell_of rZ5 2
        have ff := frozen_of rZ5
        have f0 := ff 0
        have f1 := ff 1
        have f2 := ff 2
        obtain ⟨T5, hT5⟩ : ∃ T5, T5 = a :: (Value.slice p' n' c').ownBlock.toList := ⟨_, rfl⟩
        rw [← hW5] at j1 j2
        rw [← hT5] at j1 j3
        have HF : Hid (RX w0 W5 a T5 ⟨del S.L i, S.m, S.c⟩ ∧ Sp T W W5 ∧ Nw W T T5 ∧ Kp w W ∧ W5.heap[w.heap.size]? = some (.cells #[.int .i64 0, .string ⟨#[]⟩, .int .i64 0] 34 (0, 0)) ∧ w.heap.size < W.heap.size ∧ (∀ t ∈ T, t < w.heap.size)) := ⟨j1, j2, j3, g2, rZ5, heap_lt g9, g12⟩
        have HG : Hid (hsI S.L b = true ∧ gtI S.L b = y ∧ rdL b S.L = del S.L i) := by
          refine ⟨by rw [g4]; exact hs_hit g6, by unfold gtI; rw [g4, get_hitN g7 g6]; rfl, ?_⟩
          rw [g4, rd_hit g7 g6, g5]
          unfold del
          rw [List.take_left, show A.length + 1 = (A ++ [y]).length by simp, show A ++ y :: B = (A ++ [y]) ++ B by simp, List.drop_left]
        have HW5 : Hid (W5 = wr.setCell ⟨a, 1, none⟩ (.slice p' n' c')) := hW5
        clear g2 g3 g4 g5 g6 g7 g8 g9 g10 g11 g12 ho t1 q1 q2 q3 q4 q5 hWa ho0 j1 j2 j3 q1r rW rZ hW5 s5 rW5 rZ5 ff hT5 HO HE HCL HK c1W
        go_upto_region 12 with fail
        rw [← HW5.out]
        clear HW5 c1v c1r fa
        go_wp2
        obtain ⟨j1, j2, j3, j4, j5, j6, j7⟩ := HF.out
        obtain ⟨b1, b2⟩ := box3 j5 (.int .i64 y.b) (.string y.d) (.int .i64 y.g)
        refine bodyPost_ret (results_rt2 rfl _ _ w.heap.size y (.bool true) rfl rfl (cell_of b1 0) (cell_of b1 1) (cell_of b1 2)) rfl ?_
        have hN : Nw w T T5 := (Nw.refl w T).trans j3 j4.size
        refine ⟨by rw [HG.out.1, HG.out.2.1], T5, ?_, ((j4.sp _).trans j2).then b2 (fun t ht => .inr (by simp at ht; omega)), hN⟩
        rw [HG.out.2.2]
        exact OL.rx.sp j1 b2 (fun t ht e => by
          simp at e
          rcases j3 t ht with h1 | h1
          · have := j7 t h1; omega
          · omega)

end Go.Proofs.Ytdfdoinhkjoalaa
