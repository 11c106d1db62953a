/-
  Labels (layer 12) read back, copied, the newest of them: contracts. Conditions: that the lists lie in memory.
-/
import Derived.Test.YtinpkfdmellleaaGreatZGm
import Derived.Deep.RegionWith
import Derived.Deep.RegionHeld3
import Derived.Deep.DeepCutAuto
import Derived.Laws.Strings
import Derived.Laws.ResultCell
namespace Go.Proofs.YtinpkfdmellleaaGreat
open Go.RowKit Plain
set_option linter.unusedVariables false

theorem blank_end (w : World) (o : Obj) (n s ep : Int) (sv mv : Value) (t e1 e2 : TypeId) (N : Nat) (hN : N ≤ 32) :
    Lc ((((w.alloc o).alloc (.cells #[.int .i64 n, .int .i64 s, .int .i64 ep, sv, mv] t)).alloc (.cells (madeCells #[.int .i64 0] N) e1)).alloc (.cells (madeCells #[.int .i64 0] N) e2)).drew (w.heap.size + 1) n s ep sv mv ∧
    Fe e1 ((((w.alloc o).alloc (.cells #[.int .i64 n, .int .i64 s, .int .i64 ep, sv, mv] t)).alloc (.cells (madeCells #[.int .i64 0] N) e1)).alloc (.cells (madeCells #[.int .i64 0] N) e2)).drew w.heap.size (.slice (some ⟨w.heap.size + 1 + 1, 0, none⟩) N N) N (fun _ => 0) ∧
    Fe e2 ((((w.alloc o).alloc (.cells #[.int .i64 n, .int .i64 s, .int .i64 ep, sv, mv] t)).alloc (.cells (madeCells #[.int .i64 0] N) e1)).alloc (.cells (madeCells #[.int .i64 0] N) e2)).drew w.heap.size (.slice (some ⟨w.heap.size + 1 + 1 + 1, 0, none⟩) N N) N (fun _ => 0) ∧
    Kp w ((((w.alloc o).alloc (.cells #[.int .i64 n, .int .i64 s, .int .i64 ep, sv, mv] t)).alloc (.cells (madeCells #[.int .i64 0] N) e1)).alloc (.cells (madeCells #[.int .i64 0] N) e2)).drew := by
  have h1 := Lc.new (w.alloc o) n s ep sv mv t
  have h2 := Fe.made e1 ((w.alloc o).alloc (.cells #[.int .i64 n, .int .i64 s, .int .i64 ep, sv, mv] t)) N (by omega)
  have h3 := Fe.made e2 (((w.alloc o).alloc (.cells #[.int .i64 n, .int .i64 s, .int .i64 ep, sv, mv] t)).alloc (.cells (madeCells #[.int .i64 0] N) e1)) N (by omega)
  simp only [asz] at h1 h2 h3
  refine ⟨h1.kept (((Kp.refl _).alloc _).alloc _).drew, (h2.kept ((Kp.refl _).alloc _).drew).mono (by omega), (h3.kept (Kp.refl _).drew).mono (by omega), ((((Kp.refl w).alloc _).alloc _).alloc _).alloc _ |>.drew⟩
set_option maxRecDepth 100000 in
set_option maxHeartbeats 2000000 in
theorem blank_anyL9 (N : Nat) (s : Int) (w : World) (hN : N ≤ 32) : Calls Tryz.prog 105 #[gV N s] w fun e w' => ∃ b1 b2, e = .returned (lV N s 0 (.slice (some ⟨b1, 0, none⟩) N N) (.slice (some ⟨b2, 0, none⟩) N N)) ∧ b1 ≠ b2 ∧ Fe 89 w' w.heap.size (.slice (some ⟨b1, 0, none⟩) N N) N (fun _ => 0) ∧ Fe 3 w' w.heap.size (.slice (some ⟨b2, 0, none⟩) N N) N (fun _ => 0) ∧ Kp w w' := by
  have hm1 := fun W => run_make_row' (P := Tryz.prog) 60 89 (.int .i64 0) 8 Tryz.underlying60 eiS.i rfl .i64 .i64 N (by omega) (by omega) W
  have hm2 := fun W => run_make_row' (P := Tryz.prog) 61 3 (.int .i64 0) 8 Tryz.underlying61 eiI.i rfl .i64 .i64 N (by omega) (by omega) W
  unfold gV
  go_enter Tryz.func105, Tryz.ntmps105
  go_wp2_with fail
  go_region
  all_goals (go_wp2)
  · obtain ⟨q1, q2, q3, q4⟩ := blank_end w (.cells #[.int .i64 N, .int .i64 s] 50) N s 0 (.slice (some ⟨w.heap.size + 1 + 1, 0, none⟩) N N) (.slice (some ⟨w.heap.size + 1 + 1 + 1, 0, none⟩) N N) 63 89 3 N hN
    refine bodyPost_ret (results_lb rfl _ _ (w.heap.size + 1) rfl q1) rfl ?_
    exact ⟨_, _, rfl, by omega, q2, q3, q4⟩
  · obtain ⟨q1, q2, q3, q4⟩ := blank_end w (.cells #[.int .i64 N, .int .i64 s] 50) N s 0 (.slice (some ⟨w.heap.size + 1 + 1 + 1, 0, none⟩) N N) (.slice (some ⟨w.heap.size + 1 + 1, 0, none⟩) N N) 63 3 89 N hN
    refine bodyPost_ret (results_lb rfl _ _ (w.heap.size + 1) rfl q1) rfl ?_
    exact ⟨_, _, rfl, by omega, q3, q2, q4⟩
set_option maxRecDepth 100000 in
set_option maxHeartbeats 2000000 in
theorem new_anyL9 (n s : Int) (w : World) : Calls Tryz.prog 56 #[gV n s] w fun e w' => ∃ sv mv, e = .returned (.tuple #[if gg n s = true then lV n s 1 sv mv else lV 0 0 0 (.slice none 0 0) (.slice none 0 0), .int .i64 (if gg n s = true then 0 else 4)]) ∧ (gg n s = true → Nl w' sv (List.replicate n.toNat 0) ∧ Nl w' mv (List.replicate n.toNat 0)) ∧ Kp w w' := by
  have hG := good_any n s
  cases e1 : gg n s with
  | false =>
    rw [e1] at hG
    clear e1
    simp only [Bool.false_eq_true, if_false]
    unfold gV at hG ⊢
    go_enter Tryz.func56, Tryz.ntmps56
    go_wp2_with fail
    refine (hG _).mono ?_; rintro e w1 ⟨rfl, k1⟩
    have l1 : Lc w1 (w.heap.size + 1) 0 0 0 (.slice none 0 0) (.slice none 0 0) := by
      have := (Lc.new (w.alloc (.cells #[.int .i64 n, .int .i64 s] 50)) 0 0 0 (.slice none 0 0) (.slice none 0 0) 63)
      simp only [asz] at this
      exact this.kept k1
    have z1 : ∀ o, w1.frozen? ⟨w.heap.size + 1, o, none⟩ = false := fun o => (Below.frozen (p := ⟨w.heap.size + 1, o, none⟩) k1 (by simp)).trans (by simp)
    have K1 : Kp w w1 := (((Kp.refl w).alloc _).alloc _).trans k1
    obtain ⟨c0, c1, c2, c3, c4⟩ := l1
    clear hG k1
    go_wp2
    refine bodyPost_ret (results_lb2 rfl _ _ (w.heap.size + 1) rfl rfl (Lc.over ⟨c0, c1, c2, c3, c4⟩)) rfl ?_
    exact ⟨.slice none 0 0, .slice none 0 0, rfl, fun h => absurd h (by simp), ((Trd.refl _ w1).over _ _ _ _ _).kp w K1 (by omega)⟩
  | true =>
    rw [e1] at hG
    obtain ⟨g1, g2, g3, g4⟩ := (gg_iff n s).1 e1
    clear e1
    obtain ⟨N, rfl⟩ : ∃ N : Nat, n = N := ⟨n.toNat, by omega⟩
    simp only [if_true, Int.toNat_natCast]
    have hB := fun w' => blank_anyL9 N s w' (by omega)
    unfold gV at hG hB ⊢
    go_enter Tryz.func56, Tryz.ntmps56
    go_wp2_with fail
    refine (hG _).mono ?_; rintro e w1 ⟨rfl, k1⟩
    have l1 : Lc w1 (w.heap.size + 1) 0 0 0 (.slice none 0 0) (.slice none 0 0) := by
      have := (Lc.new (w.alloc (.cells #[.int .i64 (N : Int), .int .i64 s] 50)) 0 0 0 (.slice none 0 0) (.slice none 0 0) 63)
      simp only [asz] at this
      exact this.kept k1
    have z1 : ∀ o, w1.frozen? ⟨w.heap.size + 1, o, none⟩ = false := fun o => (Below.frozen (p := ⟨w.heap.size + 1, o, none⟩) k1 (by simp)).trans (by simp)
    have c0 : w1.cell? ⟨w.heap.size, 0, none⟩ = some (.int .i64 (N : Int)) := k1.held (((Kp.refl _).alloc _).held (by simp))
    have c1 : w1.cell? ⟨w.heap.size, 1, none⟩ = some (.int .i64 s) := k1.held (((Kp.refl _).alloc _).held (by simp))
    have K1 : Kp w w1 := (((Kp.refl w).alloc _).alloc _).trans k1
    have hs1 : w.heap.size + 1 < w1.heap.size := World.block_lt_of_cell? _ _ l1.c0
    clear hG k1
    go_wp2_with fail
    refine (hB _).mono ?_; rintro e w2 ⟨b1, b2, rfl, hne, f1, f2, k2⟩
    have l2 := l1.kept k2
    have z2 : ∀ o, w2.frozen? ⟨w.heap.size + 1, o, none⟩ = false := fun o => (Below.frozen (p := ⟨w.heap.size + 1, o, none⟩) k2 hs1).trans (z1 o)
    have K2 : Hid (Kp w w2) := K1.trans k2
    unfold lV
    clear hB l1 z1 c0 c1 K1 k2
    obtain ⟨c0, c1, c2, c3, c4⟩ := l2
    have hs2 : w.heap.size + 1 < w2.heap.size := World.block_lt_of_cell? _ _ c0
    have F1 : Hid (Fe 89 w2 w1.heap.size (.slice (some ⟨b1, 0, none⟩) N N) N (fun _ => 0)) := f1
    have F2 : Hid (Fe 3 w2 w1.heap.size (.slice (some ⟨b2, 0, none⟩) N N) N (fun _ => 0)) := f2
    clear f1 f2
    go_wp2
    have t2 := (Trd.refl (w.heap.size + 1) w2).over N s 1 (.slice (some ⟨b1, 0, none⟩) N N) (.slice (some ⟨b2, 0, none⟩) N N)
    have lo : ∀ {e : TypeId} {b : Nat}, Fe e w2 w1.heap.size (.slice (some ⟨b, 0, none⟩) N N) N (fun _ => 0) → (Value.slice (some ⟨b, 0, none⟩) N N).ownBlock ≠ some (w.heap.size + 1) := fun {e b} h h' => by
      have h1 := (World.ownsRow.lt h b rfl).1
      have h2 : b = w.heap.size + 1 := Option.some.inj h'
      omega
    have n1 := ((t2.fe F1.out (lo F1.out)).kept ((Kp.refl _).alloc (.cells #[.int .i64 (N : Int), .int .i64 s, .int .i64 1, .slice (some ⟨b1, 0, none⟩) N N, .slice (some ⟨b2, 0, none⟩) N N] 63))).nums
    have n2 := ((t2.fe F2.out (lo F2.out)).kept ((Kp.refl _).alloc (.cells #[.int .i64 (N : Int), .int .i64 s, .int .i64 1, .slice (some ⟨b1, 0, none⟩) N N, .slice (some ⟨b2, 0, none⟩) N N] 63))).nums
    have er : (List.range N).map (fun _ => (0 : Int)) = List.replicate N 0 := by rw [List.map_const', List.length_range]
    rw [er] at n1 n2
    refine bodyPost_ret (results_lb2 rfl _ _ (w.heap.size + 1) rfl rfl ((Lc.over (n2 := N) (s2 := s) (ep2 := 1) (sv2 := .slice (some ⟨b1, 0, none⟩) N N) (mv2 := .slice (some ⟨b2, 0, none⟩) N N) ⟨c0, c1, c2, c3, c4⟩).kept ((Kp.refl _).alloc _))) rfl ?_
    exact ⟨_, _, rfl, fun _ => ⟨n1, n2⟩, (t2.kp w K2.out (by omega)).alloc _⟩

end Go.Proofs.YtinpkfdmellleaaGreat

namespace Go.Proofs.YtinpkfdmellleaaGreat
open Go.RowKit Plain
set_option linter.unusedVariables false

theorem lst_eq (a b : ByteArray) : (a.toList == b.toList) = decide (a = b) := by
  rw [ByteArray.toList_eq, ByteArray.toList_eq]
  by_cases h : a = b
  · rw [h]; simp
  · have h2 : a.data.toList ≠ b.data.toList := fun e => h (by
      cases a; cases b
      congr 1
      exact Array.toList_inj.1 e)
    rw [decide_eq_false h]
    exact beq_eq_false_iff_ne.2 h2
theorem pfx_eq (a : ByteArray) : (a.toList == [84, 82, 85, 78]) = decide (a = pfx) := by
  rw [← lst_eq, ByteArray.toList_eq pfx]; rfl
set_option maxRecDepth 100000 in
theorem prefix_any (s : ByteArray) (hs : s.size = 64) (w : World) : Calls Tryz.prog 143 #[.string s, .string ⟨#[84, 82, 85, 78]⟩] w fun e w' => e = .returned (.bool (decide (s.extract 0 4 = pfx))) ∧ w' = w := by
  have h : Calls Tryz.prog 159 #[.string s, .string ⟨#[84, 82, 85, 78]⟩] w fun e w' => e = .returned (.bool (decide (s.extract 0 4 = pfx))) ∧ w' = w := by
    have hz : (⟨#[84, 82, 85, 78]⟩ : ByteArray).size = 4 := rfl
    have HP : Hid (decide (s.extract 0 4 = pfx) = ((s.extract 0 4).toList == [84, 82, 85, 78])) := (pfx_eq _).symm
    go_enter Tryz.func159, Tryz.ntmps159
    go_wp2
    go_ret
    exact ⟨by rw [HP.out]; rfl, rfl⟩
  go_enter Tryz.func143, Tryz.ntmps143
  go_wp2_with fail
  refine h.mono ?_; rintro e w1 ⟨rfl, rfl⟩
  go_wp2
  go_ret
  exact ⟨rfl, rfl⟩

/-- the lists behind the first k members. -/
def pF (g : Nat → Int) (k i : Nat) : Int := if i < k then g i else 0
theorem pF_step (g : Nat → Int) (k i : Nat) : (if i = k then g k else pF g k i) = pF g (k + 1) i := by
  unfold pF
  by_cases h : i = k
  · rw [if_pos h, if_pos (by omega), h]
  · rw [if_neg h]
    by_cases h1 : i < k
    · rw [if_pos h1, if_pos (by omega)]
    · rw [if_neg h1, if_neg (by omega)]
theorem wrap_byte (x : Nat) (h : x < 256) : wrap64 (x : Int) = (x : Int) := by simp only [wrap64]; omega
theorem byte_parts (x : Nat) (h : x < 256) : (x : Int).tdiv 64 = ((x / 64 : Nat) : Int) ∧ (x : Int).tmod 64 = ((x % 64 : Nat) : Int) ∧ IntKind.i64.wrap ((x / 64 : Nat) : Int) = ((x / 64 : Nat) : Int) := by
  refine ⟨?_, ?_, ?_⟩
  · rw [Int.tdiv_eq_ediv_of_nonneg (by omega)]; omega
  · rw [Int.tmod_eq_emod_of_nonneg (by omega)]; omega
  · rw [IntKind.wrap_i64]; omega
set_option maxRecDepth 100000 in
set_option maxHeartbeats 2000000 in
theorem parse_any (N : Nat) (S : Int) (t : ByteArray) (ht : t.size = 64) (hN : N ≤ 32) (w : World) : Calls Tryz.prog 146 #[gV N S, .string t] w fun e w' => ∃ sv mv, e = .returned (lV N S (epN t) sv mv) ∧ Fe 89 w' w.heap.size sv N (fun i => ((bf t (14 + i) / 64 : Nat) : Int)) ∧ Fe 3 w' w.heap.size mv N (fun i => ((bf t (14 + i) % 64 : Nat) : Int)) ∧ Kp w w' := by
  have hB := fun w' => blank_anyL9 N S w' hN
  have hs8 : (t.extract 4 12).size = 8 := by rw [extract_size _ _ _ (by omega)]
  have hL := fun w' => load8_any (t.extract 4 12) (by omega) w'
  have hnm : nmN (bf (t.extract 4 12)) (t.extract 4 12).size = nmN (fun i => bf t (4 + i)) 8 := by
    rw [hs8]
    exact nmN_congr 8 (fun i hi => bAt_extract t 4 12 i (by omega) (by omega))
  rw [hnm] at hL
  have HE : Hid (epN t = IntKind.i64.wrap ((nmN (fun i => bf t (4 + i)) 8 : Nat) : Int)) := rfl
  obtain ⟨EP, hEP⟩ : ∃ EP, EP = epN t := ⟨_, rfl⟩
  rw [← hEP] at HE ⊢
  have hq := nmN_lt (fun i => bf t (4 + i)) (fun i => bf_lt t _) 8
  obtain ⟨q, eq⟩ : ∃ q, q = nmN (fun i => bf t (4 + i)) 8 := ⟨_, rfl⟩
  rw [← eq] at hL HE hq
  rw [show (256 : Nat) ^ 8 = 18446744073709551616 by decide +kernel] at hq
  clear hnm hEP eq
  have hwe : wrap64 (q : Int) = EP := by rw [HE.out, IntKind.wrap_i64]; simp only [wrap64]
  unfold gV at hB ⊢
  go_enter Tryz.func146, Tryz.ntmps146
  go_wp2_with fail
  refine (hB _).mono ?_; rintro e w1 ⟨b1, b2, rfl, hne, f1, f2, k1⟩
  have l1 : Lc w1 (w.heap.size + 1) 0 0 0 (.slice none 0 0) (.slice none 0 0) := by
    have := (Lc.new (w.alloc (.cells #[.int .i64 (N : Int), .int .i64 S] 50)) 0 0 0 (.slice none 0 0) (.slice none 0 0) 63)
    simp only [asz] at this
    exact this.kept k1
  have z1 : ∀ o, w1.frozen? ⟨w.heap.size + 1, o, none⟩ = false := fun o => (Below.frozen (p := ⟨w.heap.size + 1, o, none⟩) k1 (by simp)).trans (by simp)
  have K1 : Hid (Kp w w1) := (((Kp.refl w).alloc _).alloc _).trans k1
  unfold lV
  clear hB k1
  go_wp2_with fail
  refine (hL _).mono ?_; rintro e w2 ⟨rfl, rfl⟩
  clear hL
  have hb1 := World.ownsRow.lt f1 b1 rfl
  have hb2 := World.ownsRow.lt f2 b2 rfl
  have hsz : (((w.alloc (.cells #[.int .i64 (N : Int), .int .i64 S] 50)).alloc (.cells #[.int .i64 0, .int .i64 0, .int .i64 0, .slice none 0 0, .slice none 0 0] 63)).heap.size) = w.heap.size + 1 + 1 := by simp
  rw [hsz] at hb1 hb2 f1 f2
  have hl2 := Lc.new w1 N S EP (.slice (some ⟨b1, 0, none⟩) N N) (.slice (some ⟨b2, 0, none⟩) N N) 63
  have Kw : Kp w1 (w1.alloc (.cells #[.int .i64 (N : Int), .int .i64 S, .int .i64 EP, .slice (some ⟨b1, 0, none⟩) N N, .slice (some ⟨b2, 0, none⟩) N N] 63)) := (Kp.refl w1).alloc _
  obtain ⟨W, hW⟩ : ∃ W, W = w1.alloc (.cells #[.int .i64 (N : Int), .int .i64 S, .int .i64 EP, .slice (some ⟨b1, 0, none⟩) N N, .slice (some ⟨b2, 0, none⟩) N N] 63) := ⟨_, rfl⟩
  have HW : Hid (W = w1.alloc (.cells #[.int .i64 (N : Int), .int .i64 S, .int .i64 EP, .slice (some ⟨b1, 0, none⟩) N N, .slice (some ⟨b2, 0, none⟩) N N] 63)) := hW
  rw [← hW] at hl2 Kw
  have F1 : Hid (Fe 89 W (w.heap.size + 1 + 1) (.slice (some ⟨b1, 0, none⟩) N N) N (pF (fun i => ((bf t (14 + i) / 64 : Nat) : Int)) 0)) := (f1.kept Kw).congr (fun j _ => by unfold pF; rw [if_neg (by omega)])
  have F2 : Hid (Fe 3 W (w.heap.size + 1 + 1) (.slice (some ⟨b2, 0, none⟩) N N) N (pF (fun i => ((bf t (14 + i) % 64 : Nat) : Int)) 0)) := (f2.kept Kw).congr (fun j _ => by unfold pF; rw [if_neg (by omega)])
  have HL : Hid (Lc W w1.heap.size N S EP (.slice (some ⟨b1, 0, none⟩) N N) (.slice (some ⟨b2, 0, none⟩) N N)) := hl2
  have HL0 : Hid (Lc W (w.heap.size + 1) 0 0 0 (.slice none 0 0) (.slice none 0 0)) := l1.kept Kw
  have hs1 : w.heap.size + 1 < w1.heap.size := World.block_lt_of_cell? _ _ l1.c0
  have HZ0 : Hid (∀ o, W.frozen? ⟨w.heap.size + 1, o, none⟩ = false) := fun o => (Below.frozen (p := ⟨w.heap.size + 1, o, none⟩) Kw hs1).trans (z1 o)
  have KW : Hid (Kp w W) := K1.out.trans Kw
  obtain ⟨hb1a, hb1b⟩ := hb1
  obtain ⟨hb2a, hb2b⟩ := hb2
  obtain ⟨B, hB⟩ : ∃ B, B = w1.heap.size := ⟨_, rfl⟩
  rw [← hB] at HL hs1 hb1b hb2b
  have hB2 := hB.symm
  clear hW l1 z1 f1 f2 hl2 Kw hsz K1 hB
  go_wp2
  rw [← HW.out]
  clear HW hwe hB2
  go_loopw [18] (fun i wr => ∃ k : Nat, k ≤ N ∧ i = .int .i64 k ∧ Hid (Fe 89 wr (w.heap.size + 1 + 1) (.slice (some ⟨b1, 0, none⟩) N N) N (pF (fun i => ((bf t (14 + i) / 64 : Nat) : Int)) k)) ∧ Hid (Fe 3 wr (w.heap.size + 1 + 1) (.slice (some ⟨b2, 0, none⟩) N N) N (pF (fun i => ((bf t (14 + i) % 64 : Nat) : Int)) k)) ∧ Hid (Lc wr B N S EP (.slice (some ⟨b1, 0, none⟩) N N) (.slice (some ⟨b2, 0, none⟩) N N)) ∧ Hid (Lc wr (w.heap.size + 1) 0 0 0 (.slice none 0 0) (.slice none 0 0)) ∧ Hid (∀ o, wr.frozen? ⟨w.heap.size + 1, o, none⟩ = false) ∧ Hid (Kp w wr)) (fun i _ => N - (intOf i).toNat)
  case atStart => exact ⟨0, Nat.zero_le _, rfl, F1, F2, HL, HL0, HZ0, KW⟩
  case round =>
    clear F1 F2 HL HL0 HZ0 KW
    obtain ⟨k, hk, rfl, F1, F2, HL, HL0, HZ0, KW⟩ := hrel
    obtain ⟨c0, c1, c2, c3, c4⟩ := HL.out
    by_cases hlt : k < N
    · have htk : 14 + k < t.size := by omega
      have HB : Hid ((t[14 + k]'htk).toNat = bf t (14 + k)) := bf_at t (14 + k) htk
      have hx := bf_lt t (14 + k)
      obtain ⟨x, ex⟩ : ∃ x, x = bf t (14 + k) := ⟨_, rfl⟩
      rw [← ex] at HB hx
      have HX : Hid (x = bf t (14 + k)) := ex
      obtain ⟨u1, g1⟩ : ∃ u1 : Int, wr.cell? ⟨b1, k, none⟩ = some (.int .i64 u1) := ⟨_, F1.out.at k hlt⟩
      obtain ⟨u2, g2⟩ : ∃ u2 : Int, wr.cell? ⟨b2, k, none⟩ = some (.int .i64 u2) := ⟨_, F2.out.at k hlt⟩
      have y1 := F1.out.z k
      have y2 := F2.out.z k
      clear ex
      have hwx : wrap64 (((t[14 + k]'htk).toNat : Nat) : Int) = ((x : Nat) : Int) := by rw [HB.out]; exact wrap_byte x hx
      obtain ⟨d1, d2, d3⟩ := byte_parts x hx
      have hnb1 : b1 ≠ B := by omega
      have hnb2 : b2 ≠ B := by omega
      have hnb3 : B ≠ b1 := by omega
      have hnb4 : B ≠ b2 := by omega
      have hnb5 : b2 ≠ b1 := fun e => hne e.symm
      go_wp2_with fail
      rw [hwx]
      obtain ⟨y, hy⟩ : ∃ y, y = x / 64 := ⟨_, rfl⟩
      obtain ⟨z, hz⟩ : ∃ z, z = x % 64 := ⟨_, rfl⟩
      rw [← hy] at d1 d3
      rw [← hz] at d2
      have HY : Hid (y = x / 64) := hy
      have HZ : Hid (z = x % 64) := hz
      have G1 : Hid (∀ i, (if i = k then ((y : Nat) : Int) else pF (fun i => ((bf t (14 + i) / 64 : Nat) : Int)) k i) = pF (fun i => ((bf t (14 + i) / 64 : Nat) : Int)) (k + 1) i) := fun i => by rw [← pF_step, HY.out, HX.out]
      have G2 : Hid (∀ i, (if i = k then ((z : Nat) : Int) else pF (fun i => ((bf t (14 + i) % 64 : Nat) : Int)) k i) = pF (fun i => ((bf t (14 + i) % 64 : Nat) : Int)) (k + 1) i) := fun i => by rw [← pF_step, HZ.out, HX.out]
      clear hy hz hwx
      have hS1 : ∀ V : World, (V.cell? ⟨B, 3, none⟩ = some (.slice (some ⟨b1, 0, none⟩) N N) ∧ V.cell? ⟨B, 4, none⟩ = some (.slice (some ⟨b2, 0, none⟩) N N)) → (V.drew.cell? ⟨B, 3, none⟩ = some (.slice (some ⟨b1, 0, none⟩) N N) ∧ V.drew.cell? ⟨B, 4, none⟩ = some (.slice (some ⟨b2, 0, none⟩) N N)) := fun V h => h
      have hS2 : ∀ (V : World) (b o : Nat) (v : Value), b ≠ B → (V.cell? ⟨B, 3, none⟩ = some (.slice (some ⟨b1, 0, none⟩) N N) ∧ V.cell? ⟨B, 4, none⟩ = some (.slice (some ⟨b2, 0, none⟩) N N)) → ((V.setCell ⟨b, o, none⟩ v).cell? ⟨B, 3, none⟩ = some (.slice (some ⟨b1, 0, none⟩) N N) ∧ (V.setCell ⟨b, o, none⟩ v).cell? ⟨B, 4, none⟩ = some (.slice (some ⟨b2, 0, none⟩) N N)) := fun V b o v hb h => ⟨(World.cell?_setCell_other _ _ _ _ (by intro e; exact hb (congrArg Addr.block e))).trans h.1, (World.cell?_setCell_other _ _ _ _ (by intro e; exact hb (congrArg Addr.block e))).trans h.2⟩
      go_region_held3 (fun V => V.cell? ⟨B, 3, none⟩ = some (.slice (some ⟨b1, 0, none⟩) N N) ∧ V.cell? ⟨B, 4, none⟩ = some (.slice (some ⟨b2, 0, none⟩) N N)) (first | go_keep) (fail)
      all_goals go_wp2
      all_goals (
        go_roundw
        case rel =>
          have t1 : Trd b1 wr (wr.setCell ⟨b1, k, none⟩ (.int .i64 (y : Int))) := (Trd.refl b1 wr).setCell k _
          have t2 : Trd b2 (wr.setCell ⟨b1, k, none⟩ (.int .i64 (y : Int))) ((wr.setCell ⟨b1, k, none⟩ (.int .i64 (y : Int))).setCell ⟨b2, k, none⟩ (.int .i64 (z : Int))).drew := ((Trd.refl b2 _).setCell k _).drew
          have e1 : (Value.slice (some ⟨b1, 0, none⟩) N N).ownBlock ≠ some b2 := fun h => hne (Option.some.inj h)
          have e2 : (Value.slice (some ⟨b2, 0, none⟩) N N).ownBlock ≠ some b1 := fun h => hne (Option.some.inj h).symm
          refine ⟨k + 1, by omega, by go_num, t2.fe ((F1.out.set k y).congr (fun i _ => G1.out i)) e1, (((t1.fe F2.out e2).set k z).congr (fun i _ => G2.out i)).kept (Kp.refl _).drew, t2.lc hnb4 (t1.lc hnb3 HL.out), t2.lc (by omega) (t1.lc (by omega) HL0.out), fun o => ?_, t2.kp w (t1.kp w KW.out (by omega)) (by omega)⟩
          have q1 := HZ0.out o
          rw [World.frozen?_drew, World.frozen?_setCell, World.frozen?_setCell]
          exact q1
        case measure => simp [intOf]; omega)
    · obtain rfl : k = N := by omega
      have HF1 : Hid (Fe 89 wr (w.heap.size + 1 + 1) (.slice (some ⟨b1, 0, none⟩) k k) k (fun i => ((bf t (14 + i) / 64 : Nat) : Int))) := F1.out.congr (fun j hj => by unfold pF; rw [if_pos hj])
      have HF2 : Hid (Fe 3 wr (w.heap.size + 1 + 1) (.slice (some ⟨b2, 0, none⟩) k k) k (fun i => ((bf t (14 + i) % 64 : Nat) : Int))) := F2.out.congr (fun j hj => by unfold pF; rw [if_pos hj])
      have HNB : Hid (b1 ≠ w.heap.size + 1 ∧ b2 ≠ w.heap.size + 1) := ⟨by omega, by omega⟩
      have q0 := HZ0.out 0
      have q1 := HZ0.out 1
      have q2 := HZ0.out 2
      have q3 := HZ0.out 3
      have q4 := HZ0.out 4
      obtain ⟨l0, l1, l2, l3, l4⟩ := HL0.out
      clear F1 F2
      go_wp2
      have t2 := (Trd.refl (w.heap.size + 1) wr).over k S EP (.slice (some ⟨b1, 0, none⟩) k k) (.slice (some ⟨b2, 0, none⟩) k k)
      have n1 := (t2.fe HF1.out (fun h => HNB.out.1 (Option.some.inj h))).mono (b2 := w.heap.size) (by omega)
      have n2 := (t2.fe HF2.out (fun h => HNB.out.2 (Option.some.inj h))).mono (b2 := w.heap.size) (by omega)
      refine bodyPost_ret (results_lb rfl _ _ (w.heap.size + 1) rfl (HL0.out.over (n2 := k) (s2 := S) (ep2 := EP) (sv2 := .slice (some ⟨b1, 0, none⟩) k k) (mv2 := .slice (some ⟨b2, 0, none⟩) k k))) rfl ?_
      exact ⟨_, _, rfl, n1, n2, t2.kp w KW.out (by omega)⟩

end Go.Proofs.YtinpkfdmellleaaGreat

namespace Go.Proofs.YtinpkfdmellleaaGreat
open Go.RowKit Plain
set_option linter.unusedVariables false

/-- what a sector's sum and number come to. -/
theorem sec_num (s : ByteArray) (h : s.size = 64) : nmN (bf (s.extract 46 50)) (s.extract 46 50).size = nmN (fun i => bf s (46 + i)) 4 := by
  rw [extract_size _ _ _ (by omega)]
  exact nmN_congr 4 (fun i hi => bAt_extract s 46 50 i (by omega) (by omega))
theorem sec_sum (s : ByteArray) (h : s.size = 64) : smN (bf (s.extract 0 46)) (s.extract 0 46).size = smN (bf s) 46 := by
  rw [extract_size _ _ _ (by omega)]
  unfold smN mrN
  rw [rgS_congr (g := bf s) _ _ (fun i hi => by
    have := bAt_extract s 0 46 i (by omega) (by omega)
    rw [Nat.zero_add] at this
    exact this)]
theorem wrap_byte2 (x : Nat) (h : x < 256) : IntKind.i64.wrap (x : Int) = (x : Int) := by rw [IntKind.wrap_i64]; omega
theorem wrap_u32 (x : Nat) (h : x < 4294967296) : IntKind.u64.wrap (x : Int) = (x : Int) := by rw [IntKind.wrap_u64]; omega
theorem Nl.shape {w : World} {v : Value} {l : List Int} (h : Nl w v l) : ∃ a n cap, v = .slice a n cap := by
  obtain ⟨a, g, off, cap, rfl, _⟩ := h
  exact ⟨a, _, cap, rfl⟩
/-- a list in memory of whose cells none lies below block b. -/
def Nn (b : Nat) (w : World) (v : Value) (l : List Int) : Prop := ∃ a g off cap, v = .slice a l.length cap ∧ Na w a g off cap l ∧ (0 < l.length → b ≤ g)
theorem Nn.nl {b : Nat} {w : World} {v : Value} {l : List Int} (h : Nn b w v l) : Nl w v l := by
  obtain ⟨a, g, off, cap, h1, h2, _⟩ := h
  exact ⟨a, g, off, cap, h1, h2⟩
theorem Nn.nil (b : Nat) (w : World) : Nn b w (.slice none 0 0) [] := ⟨none, 0, 0, 0, rfl, ⟨by simp, by omega, fun h => absurd h (by simp), fun j hj => absurd hj (by simp)⟩, fun h => absurd h (by simp)⟩
theorem Fe.nn {e : TypeId} {w : World} {base b : Nat} {v : Value} {n : Nat} {f : Nat → Int} (h : Fe e w base v n f) (hb : b ≤ base) : Nn b w v ((List.range n).map f) := by
  obtain ⟨a, cap, rfl, h1, h2, h3⟩ := h.shape
  by_cases h0 : 0 < n
  · obtain ⟨g, rfl, h4, _⟩ := h3 h0
    exact ⟨_, g, 0, cap, by simp, ⟨by simpa using h1, h2, fun _ => rfl, fun j hj => by
      have hj2 : j < n := by simpa using hj
      rw [Nat.zero_add, h.at j hj2]; simp [List.getD_eq_getElem?_getD, hj2]⟩, fun _ => by omega⟩
  · obtain rfl : n = 0 := by omega
    exact ⟨a, 0, 0, cap, rfl, ⟨by simp, h2, fun h => absurd h (by simp), fun j hj => absurd hj (by simp)⟩, fun h => absurd h (by simp)⟩
theorem Nn.kept {b : Nat} {w w' : World} {v : Value} {l : List Int} (h : Nn b w v l) (k : Kp w w') : Nn b w' v l := by
  obtain ⟨a, g, off, cap, h1, h2, h3⟩ := h
  exact ⟨a, g, off, cap, h1, h2.kept k, h3⟩
/-- a store into a block below b leaves it. -/
theorem Nn.trd {b X : Nat} {w w' : World} {v : Value} {l : List Int} (h : Nn b w v l) (t : Trd X w w') (hX : X < b) : Nn b w' v l := by
  obtain ⟨a, g, off, cap, h1, h2, h3⟩ := h
  refine ⟨a, g, off, cap, h1, ⟨h2.le, h2.mx, h2.ha, fun j hj => t.held ?_ (h2.c j hj)⟩, h3⟩
  have := h3 (by omega)
  omega
theorem noL_is : noL.n = 0 ∧ noL.s = 0 ∧ noL.ep = 0 ∧ noL.sts = [] ∧ noL.mks = [] := ⟨rfl, rfl, rfl, rfl, rfl⟩
/-- a label that was refused. -/
theorem refused {s : ByteArray} {e : Int} (h : gtE s = e) (he : e ≠ 0) (w' : World) : Value.tuple #[lV 0 0 0 (.slice none 0 0) (.slice none 0 0), .int .i64 e] = Value.tuple #[lV (gtL s).n (gtL s).s (gtL s).ep (.slice none 0 0) (.slice none 0 0), .int .i64 (gtE s)] ∧ (∀ b, Nn b w' (.slice none 0 0) (gtL s).sts) ∧ ∀ b, Nn b w' (.slice none 0 0) (gtL s).mks := by
  rw [gtL_no (by rw [h]; exact he), h]
  exact ⟨rfl, fun b => Nn.nil b _, fun b => Nn.nil b _⟩
theorem Lc.frz {w w' : World} {b : Nat} (k : Kp w w') (hb : b < w.heap.size) (z : ∀ o, w.frozen? ⟨b, o, none⟩ = false) : ∀ o, w'.frozen? ⟨b, o, none⟩ = false := fun o => (Below.frozen (p := ⟨b, o, none⟩) k hb).trans (z o)
set_option maxRecDepth 100000 in
set_option maxHeartbeats 4000000 in
theorem get_new (s : ByteArray) (hs : s.size ≤ 9223372036854775807) (w : World) : Calls Tryz.prog 118 #[.string s] w fun e w' => ∃ sv mv, e = .returned (.tuple #[lV (gtL s).n (gtL s).s (gtL s).ep sv mv, .int .i64 (gtE s)]) ∧ Nn w.heap.size w' sv (gtL s).sts ∧ Nn w.heap.size w' mv (gtL s).mks ∧ Kp w w' := by
  by_cases h64 : s.size = 64
  case neg =>
    have HE : Hid (gtE s = 4) := gtE_form (fun h => h64 h.1)
    have hb : ((s.size : Int) != 64) = true := by simp; omega
    clear h64
    go_enter Tryz.func118, Tryz.ntmps118
    go_wp2
    obtain ⟨r1, r2, r3⟩ := refused (s := s) (e := 4) HE.out (by omega) (w.alloc (.cells #[.int .i64 0, .int .i64 0, .int .i64 0, .slice none 0 0, .slice none 0 0] 63))
    refine bodyPost_ret (results_lb2 rfl _ _ w.heap.size rfl rfl (Lc.new w 0 0 0 (.slice none 0 0) (.slice none 0 0) 63)) rfl ?_
    exact ⟨_, _, congrArg Ending.returned r1, r2 _, r3 _, (Kp.refl w).alloc _⟩
  have hP := fun w' => prefix_any s h64 w'
  have hb : ((s.size : Int) != 64) = false := by simp [h64]
  have hl0 := Lc.new w 0 0 0 (.slice none 0 0) (.slice none 0 0) 63
  obtain ⟨W, hW⟩ : ∃ W, W = w.alloc (.cells #[.int .i64 0, .int .i64 0, .int .i64 0, .slice none 0 0, .slice none 0 0] 63) := ⟨_, rfl⟩
  have HW : Hid (W = w.alloc (.cells #[.int .i64 0, .int .i64 0, .int .i64 0, .slice none 0 0, .slice none 0 0] 63)) := hW
  have hz0 : ∀ o, W.frozen? ⟨w.heap.size, o, none⟩ = false := by rw [hW]; intro o; simp
  have K0 : Kp w W := by rw [hW]; exact (Kp.refl w).alloc _
  rw [← hW] at hl0
  have hlt0 : w.heap.size < W.heap.size := World.block_lt_of_cell? _ _ hl0.c0
  have HL0 : Hid (∀ V, Kp W V → Lc V w.heap.size 0 0 0 (.slice none 0 0) (.slice none 0 0) ∧ (∀ o, V.frozen? ⟨w.heap.size, o, none⟩ = false) ∧ Kp w V) := fun V k => ⟨hl0.kept k, Lc.frz k hlt0 hz0, K0.trans k⟩
  clear hW hl0 hz0 K0
  by_cases hp : s.extract 0 4 = pfx
  case neg =>
    have HE : Hid (gtE s = 4) := gtE_form (fun h => hp h.2)
    rw [decide_eq_false hp] at hP
    clear hp
    go_enter Tryz.func118, Tryz.ntmps118
    go_wp2_with fail
    rw [← HW.out]
    refine (hP _).mono ?_; rintro e w1 ⟨rfl, e1⟩
    rw [e1]
    clear e1 w1
    obtain ⟨⟨c0, c1, c2, c3, c4⟩, z, k⟩ := HL0.out W (Kp.refl W)
    clear hP HW
    go_wp2
    obtain ⟨r1, r2, r3⟩ := refused (s := s) (e := 4) HE.out (by omega) (over W w.heap.size 0 0 0 (.slice none 0 0) (.slice none 0 0))
    refine bodyPost_ret (results_lb2 rfl _ _ w.heap.size rfl rfl (Lc.over ⟨c0, c1, c2, c3, c4⟩)) rfl ?_
    exact ⟨_, _, congrArg Ending.returned r1, r2 _, r3 _, ((Trd.refl _ W).over _ _ _ _ _).kp w k (Nat.le_refl _)⟩
  have HP : Hid (s.extract 0 4 = pfx) := hp
  rw [decide_eq_true hp] at hP
  have hLd := fun w' => load8_any (s.extract 46 50) (by rw [extract_size _ _ _ (by omega)]; omega) w'
  have hSl := fun w' => slow_any (s.extract 0 46) (by rw [extract_size _ _ _ (by omega)]; omega) w'
  rw [sec_num s h64] at hLd
  rw [sec_sum s h64] at hSl
  have HSE : Hid (smE s ↔ nmN (fun i => bf s (46 + i)) 4 = smN (bf s) 46) := Iff.rfl
  have hlS := smN_lt (bf s) (bf_lt s) 46
  obtain ⟨NS, hNS⟩ : ∃ N, N = nmN (fun i => bf s (46 + i)) 4 := ⟨_, rfl⟩
  obtain ⟨SM, hSM⟩ : ∃ S, S = smN (bf s) 46 := ⟨_, rfl⟩
  rw [← hNS] at hLd HSE
  rw [← hSM] at hSl HSE hlS
  clear hNS hSM hp
  have hcv := wrap_u32 SM hlS
  have H64 : Hid (s.size = 64) := h64
  by_cases hsm : NS = SM
  case neg =>
    have HE : Hid (gtE s = 6) := gtE_sum H64.out HP.out (fun h => hsm (HSE.out.1 h))
    have hbs : ((NS : Int) != (SM : Int)) = true := by simp; omega
    clear hsm
    go_enter Tryz.func118, Tryz.ntmps118
    go_wp2_with fail
    rw [← HW.out]
    refine (hP _).mono ?_; rintro e w1 ⟨rfl, e1⟩
    rw [e1]
    clear e1 w1
    clear hP HW
    go_wp2_with fail
    refine wp_region_kp (by kernel_rfl) (by kernel_rfl) ?_
    repeat (first
      | go_big_quiet_skip
      | (go_big_quiet_want; go_big_quiet_op; go_big_quiet_on)
      | (go_big_quiet_want; go_big_quiet_op; apply Exists.intro; refine ⟨fun p => ?_, ?_⟩; (focus
          first
          | (go_at_call 144; exact kp_same (hLd _))
          | (go_at_call 145; exact kp_same (hSl _))); go_big_quiet_on))
    refine wpQuiet_nil ?_
    rintro w1 ⟨p, rfl⟩
    obtain ⟨⟨c0, c1, c2, c3, c4⟩, z, k⟩ := HL0.out _ (kpw_kp W p)
    clear hLd hSl
    go_wp2
    obtain ⟨r1, r2, r3⟩ := refused (s := s) (e := 6) HE.out (by omega) (over (kpw W p) w.heap.size 0 0 0 (.slice none 0 0) (.slice none 0 0))
    refine bodyPost_ret (results_lb2 rfl _ _ w.heap.size rfl rfl (Lc.over ⟨c0, c1, c2, c3, c4⟩)) rfl ?_
    exact ⟨_, _, congrArg Ending.returned r1, r2 _, r3 _, ((Trd.refl _ _).over _ _ _ _ _).kp w k (Nat.le_refl _)⟩
  have HSum : Hid (smE s) := HSE.out.2 hsm
  have hbs : ((NS : Int) != (SM : Int)) = false := by simp [hsm]
  clear hsm HSE
  have hi12 : 12 < s.size := by omega
  have hi13 : 13 < s.size := by omega
  have HB12 : Hid ((s[12]'hi12).toNat = bf s 12) := bf_at s 12 hi12
  have HB13 : Hid ((s[13]'hi13).toNat = bf s 13) := bf_at s 13 hi13
  have hx12 := bf_lt s 12
  have hx13 := bf_lt s 13
  have HPR : Hid (prs s = ⟨(bf s 12 : Nat), (bf s 13 : Nat), epN s, stL2 s (bf s 12), mkL2 s (bf s 12)⟩) := rfl
  obtain ⟨N, hN⟩ : ∃ N, N = bf s 12 := ⟨_, rfl⟩
  obtain ⟨S, hS⟩ : ∃ S, S = bf s 13 := ⟨_, rfl⟩
  rw [← hN] at HB12 hx12 HPR
  rw [← hS] at HB13 hx13 HPR
  have hw12 : wrap64 (((s[12]'hi12).toNat : Nat) : Int) = (N : Int) := by rw [HB12.out]; exact wrap_byte N hx12
  have hw13 : wrap64 (((s[13]'hi13).toNat : Nat) : Int) = (S : Int) := by rw [HB13.out]; exact wrap_byte S hx13
  have hv12 : IntKind.i64.wrap (((s[12]'hi12).toNat : Nat) : Int) = (N : Int) := by rw [HB12.out]; exact wrap_byte2 N hx12
  have hv13 : IntKind.i64.wrap (((s[13]'hi13).toNat : Nat) : Int) = (S : Int) := by rw [HB13.out]; exact wrap_byte2 S hx13
  clear hN hS
  have hG := good_any N S
  go_enter Tryz.func118, Tryz.ntmps118
  go_wp2_with fail
  rw [← HW.out]
  refine (hP _).mono ?_; rintro e w1 ⟨rfl, e1⟩
  rw [e1]
  clear e1 w1
  clear hP HW
  go_wp2_with fail
  refine wp_region_kp (by kernel_rfl) (by kernel_rfl) ?_
  repeat (first
    | go_big_quiet_skip
    | (go_big_quiet_want; go_big_quiet_op; go_big_quiet_on)
    | (go_big_quiet_want; go_big_quiet_op; apply Exists.intro; refine ⟨fun p => ?_, ?_⟩; (focus
        first
        | (go_at_call 144; exact kp_same (hLd _))
        | (go_at_call 145; exact kp_same (hSl _))); go_big_quiet_on))
  refine wpQuiet_nil ?_
  rintro w1 ⟨p, rfl⟩
  have HK2 := kpw_kp W p
  obtain ⟨w2, hw2⟩ : ∃ w2, w2 = kpw W p := ⟨_, rfl⟩
  rw [← hw2] at HK2 ⊢
  have K2 : Hid (Kp W w2) := HK2
  clear hLd hSl HK2 hw2 hcv
  go_wp2_with fail
  go_cut [4] (fun p wx => ∃ b, p = .pointer (some ⟨b, 0, none⟩) ∧ wx.cell? ⟨b, 0, none⟩ = some (.int .i64 (N : Int)) ∧ wx.cell? ⟨b, 1, none⟩ = some (.int .i64 (S : Int)) ∧ Hid (Kp W wx))
  case first =>
    go_region
    all_goals (go_wp2_with fail; go_meet)
    all_goals exact ⟨_, rfl, by rw [World.cell?_drew, World.cell?_alloc_at _ _ _ _ rfl]; rfl, by rw [World.cell?_drew, World.cell?_alloc_at _ _ _ _ rfl]; rfl, (K2.out.alloc _).drew⟩
  obtain ⟨b, rfl, q0, q1, K3⟩ := hcut
  obtain ⟨w3, hw3⟩ : ∃ w3, w3 = wc := ⟨_, rfl⟩
  rw [← hw3] at q0 q1 K3 ⊢
  clear hw3 K2 hw12 hw13 hv12 hv13 hb hbs
  have hGw := hG w3
  have HPN : Hid (lg (prs s) = true → gg N S = true) := fun h => by
    have := ((lg_iff _).1 h).1
    rw [HPR.out] at this
    exact this
  clear hG
  cases e1 : gg (N : Int) (S : Int) with
  | false =>
    have HE : Hid (gtE s = 4) := gtE_not H64.out HP.out HSum.out (fun h => by have := HPN.out h.1; rw [e1] at this; cases this)
    rw [e1] at hGw
    clear e1 HPN
    unfold gV at hGw
    go_wp2_with fail
    refine hGw.mono ?_; rintro e w4 ⟨rfl, k4⟩
    have K4 : Hid (Kp W w4) := K3.out.trans k4
    obtain ⟨⟨c0, c1, c2, c3, c4⟩, z, k⟩ := HL0.out _ K4.out
    clear hGw k4 q0 q1
    go_wp2
    obtain ⟨r1, r2, r3⟩ := refused (s := s) (e := 4) HE.out (by omega) (over w4 w.heap.size 0 0 0 (.slice none 0 0) (.slice none 0 0))
    refine bodyPost_ret (results_lb2 rfl _ _ w.heap.size rfl rfl (Lc.over ⟨c0, c1, c2, c3, c4⟩)) rfl ?_
    exact ⟨_, _, congrArg Ending.returned r1, r2 _, r3 _, ((Trd.refl _ _).over _ _ _ _ _).kp w k (Nat.le_refl _)⟩
  | true =>
    obtain ⟨g1, g2, g3, g4⟩ := (gg_iff _ _).1 e1
    rw [e1] at hGw
    clear e1 HPN
    unfold gV at hGw
    have hPa := fun w' => parse_any N S s H64.out (by omega) w'
    unfold gV at hPa
    go_wp2_with fail
    refine hGw.mono ?_; rintro e w4 ⟨rfl, k4⟩
    have K4 : Hid (Kp W w4) := K3.out.trans k4
    have r0 := k4.held q0
    have r1 := k4.held q1
    clear hGw k4 q0 q1 K3
    go_wp2_with fail
    refine (hPa _).mono ?_; rintro e w5 ⟨sv0, mv0, rfl, f1, f2, k5⟩
    have n1 : Nl w5 sv0 (stL2 s N) := f1.nums
    have n2 : Nl w5 mv0 (mkL2 s N) := f2.nums
    obtain ⟨a1, m1, p1, rfl⟩ := n1.shape
    obtain ⟨a2, m2, p2, rfl⟩ := n2.shape
    have K5 : Hid (Kp W w5) := K4.out.trans k5
    have hPu := fun w' (k : Kp w5 w') => put_anyL9 ⟨(N : Int), (S : Int), epN s, stL2 s N, mkL2 s N⟩ (.slice a1 m1 p1) (.slice a2 m2 p2) w' (n1.kept k) (n2.kept k)
    have HN1 : Hid (∀ w', Kp w5 w' → Nl w' (.slice a1 m1 p1) (stL2 s N) ∧ Nl w' (.slice a2 m2 p2) (mkL2 s N)) := fun w' k => ⟨n1.kept k, n2.kept k⟩
    have HOK : Hid (okS s ↔ lg ⟨(N : Int), (S : Int), epN s, stL2 s N, mkL2 s N⟩ = true ∧ ptS ⟨(N : Int), (S : Int), epN s, stL2 s N, mkL2 s N⟩ = s) := by
      show _ ↔ _
      unfold okS
      rw [HPR.out]
    have hw4 : w.heap.size < w4.heap.size := by
      obtain ⟨⟨c0, _, _, _, _⟩, _, _⟩ := HL0.out _ K4.out
      exact World.block_lt_of_cell? _ _ c0
    have HF1 : Hid (Fe 89 w5 w4.heap.size (.slice a1 m1 p1) N (fun i => ((bf s (14 + i) / 64 : Nat) : Int)) ∧ Fe 3 w5 w4.heap.size (.slice a2 m2 p2) N (fun i => ((bf s (14 + i) % 64 : Nat) : Int))) := ⟨f1, f2⟩
    have HW4 : Hid (w.heap.size < w4.heap.size) := hw4
    clear hPa n1 n2 k5 K4 r0 r1 f1 f2 hw4
    simp only at hPu
    unfold lV at hPu ⊢
    cases e2 : lg ⟨(N : Int), (S : Int), epN s, stL2 s N, mkL2 s N⟩ with
    | false =>
      have HE : Hid (gtE s = 4) := gtE_not H64.out HP.out HSum.out (fun h => by have := (HOK.out.1 h).1; rw [e2] at this; cases this)
      have hpe : puE ⟨(N : Int), (S : Int), epN s, stL2 s N, mkL2 s N⟩ = 4 := if_neg (by rw [e2]; simp)
      rw [hpe] at hPu
      obtain ⟨PS, hPS⟩ : ∃ PS, PS = puS ⟨(N : Int), (S : Int), epN s, stL2 s N, mkL2 s N⟩ := ⟨_, rfl⟩
      rw [← hPS] at hPu
      clear hPS hpe e2 HOK
      go_wp2_with fail
      refine (hPu _ ((Kp.refl w5).alloc _)).mono ?_; rintro e w6 ⟨rfl, k6⟩
      have K6 : Hid (Kp W w6) := (K5.out.alloc _).trans k6
      obtain ⟨⟨c0, c1, c2, c3, c4⟩, z, k⟩ := HL0.out _ K6.out
      clear hPu k6
      go_wp2
      obtain ⟨r1, r2, r3⟩ := refused (s := s) (e := 4) HE.out (by omega) (over w6 w.heap.size 0 0 0 (.slice none 0 0) (.slice none 0 0))
      refine bodyPost_ret (results_lb2 rfl _ _ w.heap.size rfl rfl (Lc.over ⟨c0, c1, c2, c3, c4⟩)) rfl ?_
      exact ⟨_, _, congrArg Ending.returned r1, r2 _, r3 _, ((Trd.refl _ _).over _ _ _ _ _).kp w k (Nat.le_refl _)⟩
    | true =>
      have hpe : puE ⟨(N : Int), (S : Int), epN s, stL2 s N, mkL2 s N⟩ = 0 := if_pos e2
      have hps : puS ⟨(N : Int), (S : Int), epN s, stL2 s N, mkL2 s N⟩ = ptS ⟨(N : Int), (S : Int), epN s, stL2 s N, mkL2 s N⟩ := if_pos e2
      rw [hpe, hps] at hPu
      have HLG : Hid (lg ⟨(N : Int), (S : Int), epN s, stL2 s N, mkL2 s N⟩ = true) := e2
      obtain ⟨PS, hPS⟩ : ∃ PS, PS = ptS ⟨(N : Int), (S : Int), epN s, stL2 s N, mkL2 s N⟩ := ⟨_, rfl⟩
      rw [← hPS] at hPu HOK
      clear hPS hpe hps e2
      have hcmp := lst_eq PS s
      by_cases hq : PS = s
      case neg =>
        have HE : Hid (gtE s = 4) := gtE_not H64.out HP.out HSum.out (fun h => hq (HOK.out.1 h).2)
        rw [decide_eq_false hq] at hcmp
        clear hq HOK
        go_wp2_with fail
        refine (hPu _ ((Kp.refl w5).alloc _)).mono ?_; rintro e w6 ⟨rfl, k6⟩
        have K6 : Hid (Kp W w6) := (K5.out.alloc _).trans k6
        obtain ⟨⟨c0, c1, c2, c3, c4⟩, z, k⟩ := HL0.out _ K6.out
        clear hPu k6
        go_wp2
        obtain ⟨r1, r2, r3⟩ := refused (s := s) (e := 4) HE.out (by omega) (over w6 w.heap.size 0 0 0 (.slice none 0 0) (.slice none 0 0))
        refine bodyPost_ret (results_lb2 rfl _ _ w.heap.size rfl rfl (Lc.over ⟨c0, c1, c2, c3, c4⟩)) rfl ?_
        exact ⟨_, _, congrArg Ending.returned r1, r2 _, r3 _, ((Trd.refl _ _).over _ _ _ _ _).kp w k (Nat.le_refl _)⟩
      rw [decide_eq_true hq] at hcmp
      have hE0 : gtE s = 0 := gtE_ok H64.out HP.out HSum.out (HOK.out.2 ⟨HLG.out, hq⟩)
      have HE : Hid (gtE s = 0) := hE0
      have HGL : Hid (gtL s = ⟨(N : Int), (S : Int), epN s, stL2 s N, mkL2 s N⟩) := by show gtL s = _; rw [gtL_ok hE0, HPR.out]
      clear hq HOK hE0
      obtain ⟨w5b, hw5b⟩ : ∃ v, v = w5.alloc (.cells #[.int .i64 (N : Int), .int .i64 (S : Int), .int .i64 (epN s), .slice a1 m1 p1, .slice a2 m2 p2] 63) := ⟨_, rfl⟩
      have HW5 : Hid (w5b = w5.alloc (.cells #[.int .i64 (N : Int), .int .i64 (S : Int), .int .i64 (epN s), .slice a1 m1 p1, .slice a2 m2 p2] 63)) := hw5b
      have hl5 := Lc.new w5 N S (epN s) (.slice a1 m1 p1) (.slice a2 m2 p2) 63
      have k5b : Kp w5 w5b := by rw [hw5b]; exact (Kp.refl w5).alloc _
      rw [← hw5b] at hl5
      obtain ⟨B, hB⟩ : ∃ B, B = w5.heap.size := ⟨_, rfl⟩
      rw [← hB] at hl5
      have hB2 := hB.symm
      have hneB : w.heap.size < w5.heap.size := by
        obtain ⟨⟨c0, _, _, _, _⟩, _, _⟩ := HL0.out _ K5.out
        exact World.block_lt_of_cell? _ _ c0
      rw [← hB] at hneB
      clear hw5b hB
      go_wp2_with fail
      rw [← HW5.out]
      refine (hPu _ k5b).mono ?_; rintro e w6 ⟨rfl, k6⟩
      have K6 : Hid (Kp W w6) := (K5.out.trans k5b).trans k6
      have HN6 : Hid (Fe 89 w6 w4.heap.size (.slice a1 m1 p1) N (fun i => ((bf s (14 + i) / 64 : Nat) : Int)) ∧ Fe 3 w6 w4.heap.size (.slice a2 m2 p2) N (fun i => ((bf s (14 + i) % 64 : Nat) : Int))) := ⟨HF1.out.1.kept (k5b.trans k6), HF1.out.2.kept (k5b.trans k6)⟩
      obtain ⟨d0, d1, d2, d3, d4⟩ := hl5.kept k6
      obtain ⟨⟨c0, c1, c2, c3, c4⟩, z, k⟩ := HL0.out _ K6.out
      have HK : Hid (Kp w w6) := k
      clear hPu k6 HW5 hl5 k5b hB2 HN1 k
      go_wp2
      have t2 := (Trd.refl w.heap.size w6).over N S (epN s) (.slice a1 m1 p1) (.slice a2 m2 p2)
      have lo : ∀ {e : TypeId} {v : Value} {f : Nat → Int}, Fe e w6 w4.heap.size v N f → v.ownBlock ≠ some w.heap.size := fun {e v f} h h' => by
        have h1 := (World.ownsRow.lt h _ h').1
        have h2 := HW4.out
        omega
      have n1 : Nn w.heap.size _ _ (stL2 s N) := (t2.fe HN6.out.1 (lo HN6.out.1)).nn (by have := HW4.out; omega)
      have n2 : Nn w.heap.size _ _ (mkL2 s N) := (t2.fe HN6.out.2 (lo HN6.out.2)).nn (by have := HW4.out; omega)
      refine bodyPost_ret (results_lb2 rfl _ _ w.heap.size rfl rfl (Lc.over (n2 := N) (s2 := S) (ep2 := epN s) (sv2 := .slice a1 m1 p1) (mv2 := .slice a2 m2 p2) ⟨c0, c1, c2, c3, c4⟩)) rfl ?_
      rw [HGL.out, HE.out]
      exact ⟨_, _, rfl, n1, n2, t2.kp w HK.out (Nat.le_refl _)⟩
theorem get_any (s : ByteArray) (hs : s.size ≤ 9223372036854775807) (w : World) : Calls Tryz.prog 118 #[.string s] w fun e w' => ∃ sv mv, e = .returned (.tuple #[lV (gtL s).n (gtL s).s (gtL s).ep sv mv, .int .i64 (gtE s)]) ∧ Nl w' sv (gtL s).sts ∧ Nl w' mv (gtL s).mks ∧ Kp w w' :=
  (get_new s hs w).mono fun _ _ ⟨sv, mv, h1, h2, h3, h4⟩ => ⟨sv, mv, h1, h2.nl, h3.nl, h4⟩

end Go.Proofs.YtinpkfdmellleaaGreat

namespace Go.Proofs.YtinpkfdmellleaaGreat
open Go.RowKit Plain
set_option linter.unusedVariables false

theorem Ap.frozen {w w' : World} {v v' : Value} (h : Ap w w' v v') {b o : Nat} (hb : v.ownBlock ≠ some b) (hl : b < w.heap.size) : w'.frozen? ⟨b, o, none⟩ = w.frozen? ⟨b, o, none⟩ :=
  World.frozen?_of_block (w := w) (a := ⟨b, o, none⟩) (h.g.block b hl (fun e => hb e.symm))
theorem Oi.shape {e : TypeId} {w : World} {base : Nat} {v : Value} {l : List Int} (h : Oi e w base v l) : ∃ a n cap, v = .slice a n cap := by
  rcases h.2 with ⟨rfl, _⟩ | ⟨g, cap, cur, rfl, _⟩
  · exact ⟨_, _, _, rfl⟩
  · exact ⟨_, _, _, rfl⟩
/-- a row of the call's own stays where another one has grown. -/
theorem Ap.oi {w w' : World} {v v' u : Value} {e : TypeId} {base : Nat} {l : List Int} (h : Ap w w' v v') (hu : Oi e w base u l) (hne : ∀ k, u.ownBlock = some k → v.ownBlock ≠ some k) : Oi e w' base u l :=
  World.ownsRow.kept hu h.g (by
    cases hq : u.ownBlock with
    | none => exact .inl rfl
    | some k => exact .inr (fun e2 => hne k hq e2.symm))
theorem Trd.oi {b : Nat} {w w' : World} (h : Trd b w w') {e : TypeId} {base : Nat} {v : Value} {l : List Int} (k : Oi e w base v l) (hb : v.ownBlock ≠ some b) : Oi e w' base v l := by
  rcases k.2 with ⟨h', h0⟩ | ⟨g, cap, cur, h', hb', hg, hr⟩
  · exact ⟨k.1, .inl ⟨h', h0⟩⟩
  · subst h'
    exact ⟨k.1, .inr ⟨g, cap, cur, rfl, hb', (h.block g (fun e => hb (by rw [e]; rfl))).trans hg, hr⟩⟩
/-- a label at block B with lists of its own, and what else must stay (the blocks of F). -/
structure Rg (e1 e2 : TypeId) (base B : Nat) (n s ep : Int) (wr : World) (sv mv : Value) (l m : List Int) : Prop where
  lb : Lc wr B n s ep sv mv
  fb : ∀ o, wr.frozen? ⟨B, o, none⟩ = false
  o1 : Oi e1 wr base sv l
  o2 : Oi e2 wr base mv m
  ap : ∀ k, sv.ownBlock = some k → mv.ownBlock ≠ some k
  hB : B < base
  hb : base ≤ wr.heap.size
theorem Rg.kept {e1 e2 : TypeId} {base B : Nat} {n s ep : Int} {wr w' : World} {sv mv : Value} {l m : List Int} (h : Rg e1 e2 base B n s ep wr sv mv l m) (k : Kp wr w') : Rg e1 e2 base B n s ep w' sv mv l m :=
  ⟨h.lb.kept k, fun o => (Below.frozen (p := ⟨B, o, none⟩) k (Nat.lt_of_lt_of_le h.hB h.hb)).trans (h.fb o), h.o1.kept k, h.o2.kept k, h.ap, h.hB, Nat.le_trans h.hb k.size⟩
theorem Rg.n1 {e1 e2 : TypeId} {base B : Nat} {n s ep : Int} {wr : World} {sv mv : Value} {l m : List Int} (h : Rg e1 e2 base B n s ep wr sv mv l m) : ∀ b, b < base → sv.ownBlock ≠ some b := fun b hb e => by have := (h.o1.low b e).1; omega
theorem Rg.n2 {e1 e2 : TypeId} {base B : Nat} {n s ep : Int} {wr : World} {sv mv : Value} {l m : List Int} (h : Rg e1 e2 base B n s ep wr sv mv l m) : ∀ b, b < base → mv.ownBlock ≠ some b := fun b hb e => by have := (h.o2.low b e).1; omega
/-- the first list has grown: the label's cells are as they were. -/
theorem Rg.after1 {e1 e2 : TypeId} {base B : Nat} {n s ep : Int} {wr w9 : World} {sv mv v2 : Value} {l m : List Int} (h : Rg e1 e2 base B n s ep wr sv mv l m) (a : Ap wr w9 sv v2) : Lc w9 B n s ep sv mv ∧ ∀ o, w9.frozen? ⟨B, o, none⟩ = false :=
  ⟨⟨a.cell (h.n1 B h.hB) h.lb.c0, a.cell (h.n1 B h.hB) h.lb.c1, a.cell (h.n1 B h.hB) h.lb.c2, a.cell (h.n1 B h.hB) h.lb.c3, a.cell (h.n1 B h.hB) h.lb.c4⟩, fun o => (a.frozen (h.n1 B h.hB) (Nat.lt_of_lt_of_le h.hB h.hb)).trans (h.fb o)⟩
theorem Rg.after2 {e1 e2 : TypeId} {base B : Nat} {n s ep : Int} {wr w9 : World} {sv mv v2 : Value} {l m : List Int} (h : Rg e1 e2 base B n s ep wr sv mv l m) (a : Ap wr w9 mv v2) : Lc w9 B n s ep sv mv ∧ ∀ o, w9.frozen? ⟨B, o, none⟩ = false :=
  ⟨⟨a.cell (h.n2 B h.hB) h.lb.c0, a.cell (h.n2 B h.hB) h.lb.c1, a.cell (h.n2 B h.hB) h.lb.c2, a.cell (h.n2 B h.hB) h.lb.c3, a.cell (h.n2 B h.hB) h.lb.c4⟩, fun o => (a.frozen (h.n2 B h.hB) (Nat.lt_of_lt_of_le h.hB h.hb)).trans (h.fb o)⟩
/-- .. and the list is stored. -/
theorem Rg.put1 {e1 e2 : TypeId} {base B : Nat} {n s ep : Int} {wr w9 : World} {sv mv v2 : Value} {l m : List Int} {p : Int} (h : Rg e1 e2 base B n s ep wr sv mv l m) (a : Ap wr w9 sv v2) (o : Oi e1 w9 base v2 (l ++ [p])) : Rg e1 e2 base B n s ep (w9.setCell ⟨B, 3, none⟩ v2) v2 mv (l ++ [p]) m := by
  obtain ⟨q1, q2⟩ := h.after1 a
  have t : Trd B w9 (w9.setCell ⟨B, 3, none⟩ v2) := (Trd.refl B w9).setCell 3 _
  have hz := t.size
  refine ⟨q1.set3 v2, fun o => by rw [World.frozen?_setCell]; exact q2 o, t.oi o (fun e => ?_), t.oi (a.oi h.o2 (fun k hk hs => h.ap k hs hk)) (h.n2 B h.hB), fun k hk hm => ?_, h.hB, by have := a.size; have := h.hb; omega⟩
  · have := (o.low B e).1
    have := h.hB
    omega
  · rcases a.own with e | e
    · exact h.ap k (e.symm.trans hk) hm
    · have h1 := (h.o2.low k hm).2
      have h2 : wr.heap.size = k := Option.some.inj (e.symm.trans hk)
      omega
theorem Rg.put2 {e1 e2 : TypeId} {base B : Nat} {n s ep : Int} {wr w9 : World} {sv mv v2 : Value} {l m : List Int} {p : Int} (h : Rg e1 e2 base B n s ep wr sv mv l m) (a : Ap wr w9 mv v2) (o : Oi e2 w9 base v2 (m ++ [p])) : Rg e1 e2 base B n s ep (w9.setCell ⟨B, 4, none⟩ v2) sv v2 l (m ++ [p]) := by
  obtain ⟨q1, q2⟩ := h.after2 a
  have t : Trd B w9 (w9.setCell ⟨B, 4, none⟩ v2) := (Trd.refl B w9).setCell 4 _
  have hz := t.size
  refine ⟨q1.set4 v2, fun o => by rw [World.frozen?_setCell]; exact q2 o, t.oi (a.oi h.o1 (fun k hk => h.ap k hk)) (h.n1 B h.hB), t.oi o (fun e => ?_), fun k hk hm => ?_, h.hB, by have := a.size; have := h.hb; omega⟩
  · have := (o.low B e).1
    have := h.hB
    omega
  · rcases a.own with e | e
    · exact h.ap k hk (e.symm.trans hm)
    · have h1 := (h.o1.low k hk).2
      have h2 : wr.heap.size = k := Option.some.inj (e.symm.trans hm)
      omega

/-- .. with a label's block r that is as it was made, in a call that began in w. -/
structure Rq (e1 e2 : TypeId) (w : World) (r base B : Nat) (n s ep : Int) (wr : World) (sv mv : Value) (l m : List Int) : Prop where
  g : Rg e1 e2 base B n s ep wr sv mv l m
  l0 : Lc wr r 0 0 0 (.slice none 0 0) (.slice none 0 0)
  f0 : ∀ o, wr.frozen? ⟨r, o, none⟩ = false
  k : Kp w wr
  hr : r < base
  ne : r ≠ B
  hw : w.heap.size ≤ base
  hwB : w.heap.size ≤ B
theorem Rq.kept {e1 e2 : TypeId} {w : World} {r base B : Nat} {n s ep : Int} {wr w' : World} {sv mv : Value} {l m : List Int} (h : Rq e1 e2 w r base B n s ep wr sv mv l m) (k : Kp wr w') : Rq e1 e2 w r base B n s ep w' sv mv l m :=
  ⟨h.g.kept k, h.l0.kept k, fun o => (Below.frozen (p := ⟨r, o, none⟩) k (Nat.lt_of_lt_of_le h.hr h.g.hb)).trans (h.f0 o), h.k.trans k, h.hr, h.ne, h.hw, h.hwB⟩
theorem Ap.lc {w w' : World} {v v' : Value} (a : Ap w w' v v') {b : Nat} (hb : v.ownBlock ≠ some b) {n s ep : Int} {sv mv : Value} (h : Lc w b n s ep sv mv) : Lc w' b n s ep sv mv := ⟨a.cell hb h.c0, a.cell hb h.c1, a.cell hb h.c2, a.cell hb h.c3, a.cell hb h.c4⟩
theorem Rq.put1 {e1 e2 : TypeId} {w : World} {r base B : Nat} {n s ep : Int} {wr w9 : World} {sv mv v2 : Value} {l m : List Int} {p : Int} (h : Rq e1 e2 w r base B n s ep wr sv mv l m) (a : Ap wr w9 sv v2) (o : Oi e1 w9 base v2 (l ++ [p])) : Rq e1 e2 w r base B n s ep (w9.setCell ⟨B, 3, none⟩ v2) v2 mv (l ++ [p]) m := by
  have t : Trd B w9 (w9.setCell ⟨B, 3, none⟩ v2) := (Trd.refl B w9).setCell 3 _
  have hl := h.g.n1 r h.hr
  refine ⟨h.g.put1 a o, t.lc h.ne (a.lc hl h.l0), fun o => ?_, t.kp w (a.kp h.k (fun b hb => ?_)) h.hwB, h.hr, h.ne, h.hw, h.hwB⟩
  · rw [World.frozen?_setCell, a.frozen hl (Nat.lt_of_lt_of_le h.hr h.g.hb)]; exact h.f0 o
  · have := (h.g.o1.low b hb).1
    have := h.hw
    omega
theorem Rq.put2 {e1 e2 : TypeId} {w : World} {r base B : Nat} {n s ep : Int} {wr w9 : World} {sv mv v2 : Value} {l m : List Int} {p : Int} (h : Rq e1 e2 w r base B n s ep wr sv mv l m) (a : Ap wr w9 mv v2) (o : Oi e2 w9 base v2 (m ++ [p])) : Rq e1 e2 w r base B n s ep (w9.setCell ⟨B, 4, none⟩ v2) sv v2 l (m ++ [p]) := by
  have t : Trd B w9 (w9.setCell ⟨B, 4, none⟩ v2) := (Trd.refl B w9).setCell 4 _
  have hl := h.g.n2 r h.hr
  refine ⟨h.g.put2 a o, t.lc h.ne (a.lc hl h.l0), fun o => ?_, t.kp w (a.kp h.k (fun b hb => ?_)) h.hwB, h.hr, h.ne, h.hw, h.hwB⟩
  · rw [World.frozen?_setCell, a.frozen hl (Nat.lt_of_lt_of_le h.hr h.g.hb)]; exact h.f0 o
  · have := (h.g.o2.low b hb).1
    have := h.hw
    omega

end Go.Proofs.YtinpkfdmellleaaGreat

namespace Go.Proofs.YtinpkfdmellleaaGreat
open Go.RowKit Plain
set_option linter.unusedVariables false

theorem Oi.nn {e : TypeId} {w : World} {base b : Nat} {v : Value} {l : List Int} (h : Oi e w base v l) (hb : b ≤ base) : Nn b w v l := by
  have h1 := h.fe.nn hb
  rwa [list_of l l.length (fun i => l.getD i 0) rfl (fun i _ => rfl)] at h1
theorem stL2_step (t : ByteArray) (k : Nat) : stL2 t (k + 1) = stL2 t k ++ [((bf t (14 + k) / 64 : Nat) : Int)] := by unfold stL2; rw [List.range_succ, List.map_append]; rfl
theorem mkL2_step (t : ByteArray) (k : Nat) : mkL2 t (k + 1) = mkL2 t k ++ [((bf t (14 + k) % 64 : Nat) : Int)] := by unfold mkL2; rw [List.range_succ, List.map_append]; rfl
theorem stL2_len (t : ByteArray) (k : Nat) : (stL2 t k).length = k := by simp [stL2]
theorem mkL2_len (t : ByteArray) (k : Nat) : (mkL2 t k).length = k := by simp [mkL2]
theorem ix14 (k : Nat) (h : k < 32) : IntKind.i64.wrap (14 + (k : Int)) = 14 + (k : Int) ∧ 0 ≤ 14 + (k : Int) ∧ 14 + (k : Int) < 64 ∧ (14 + (k : Int)).toNat = 14 + k := by
  refine ⟨by rw [IntKind.wrap_i64]; omega, by omega, by omega, by omega⟩
set_option maxRecDepth 100000 in
set_option maxHeartbeats 4000000 in
theorem rget_new (s : ByteArray) (hs : s.size ≤ 9223372036854775807) (w : World) : Calls Tryz.prog 120 #[.string s] w fun e w' => ∃ sv mv, e = .returned (.tuple #[lV (gtL s).n (gtL s).s (gtL s).ep sv mv, .int .i64 (gtE s)]) ∧ Nn w.heap.size w' sv (gtL s).sts ∧ Nn w.heap.size w' mv (gtL s).mks ∧ Kp w w' := by
  by_cases h64 : s.size = 64
  case neg =>
    have HE : Hid (gtE s = 4) := gtE_form (fun h => h64 h.1)
    have hb : ((s.size : Int) != 64) = true := by simp; omega
    clear h64
    go_enter Tryz.func120, Tryz.ntmps120
    go_wp2
    obtain ⟨r1, r2, r3⟩ := refused (s := s) (e := 4) HE.out (by omega) (w.alloc (.cells #[.int .i64 0, .int .i64 0, .int .i64 0, .slice none 0 0, .slice none 0 0] 66))
    refine bodyPost_ret (results_rl2 rfl _ _ w.heap.size rfl rfl (Lc.new w 0 0 0 (.slice none 0 0) (.slice none 0 0) 66)) rfl ?_
    exact ⟨_, _, congrArg Ending.returned r1, r2 _, r3 _, (Kp.refl w).alloc _⟩
  have hb : ((s.size : Int) != 64) = false := by simp [h64]
  have hl0 := Lc.new w 0 0 0 (.slice none 0 0) (.slice none 0 0) 66
  obtain ⟨W, hW⟩ : ∃ W, W = w.alloc (.cells #[.int .i64 0, .int .i64 0, .int .i64 0, .slice none 0 0, .slice none 0 0] 66) := ⟨_, rfl⟩
  have HW : Hid (W = w.alloc (.cells #[.int .i64 0, .int .i64 0, .int .i64 0, .slice none 0 0, .slice none 0 0] 66)) := hW
  have hz0 : ∀ o, W.frozen? ⟨w.heap.size, o, none⟩ = false := by rw [hW]; intro o; simp
  have K0 : Kp w W := by rw [hW]; exact (Kp.refl w).alloc _
  rw [← hW] at hl0
  have hlt0 : w.heap.size < W.heap.size := World.block_lt_of_cell? _ _ hl0.c0
  have HL0 : Hid (∀ V, Kp W V → Lc V w.heap.size 0 0 0 (.slice none 0 0) (.slice none 0 0) ∧ (∀ o, V.frozen? ⟨w.heap.size, o, none⟩ = false) ∧ Kp w V) := fun V k => ⟨hl0.kept k, Lc.frz k hlt0 hz0, K0.trans k⟩
  clear hW hl0 hz0 K0
  have hpe := pfx_eq (s.extract 0 4)
  by_cases hp : s.extract 0 4 = pfx
  case neg =>
    have HE : Hid (gtE s = 4) := gtE_form (fun h => hp h.2)
    rw [decide_eq_false hp] at hpe
    clear hp
    have hl0 := Lc.new w 0 0 0 (.slice none 0 0) (.slice none 0 0) 66
    clear HW HL0 hlt0
    go_enter Tryz.func120, Tryz.ntmps120
    go_wp2
    obtain ⟨r1, r2, r3⟩ := refused (s := s) (e := 4) HE.out (by omega) (w.alloc (.cells #[.int .i64 0, .int .i64 0, .int .i64 0, .slice none 0 0, .slice none 0 0] 66))
    refine bodyPost_ret (results_rl2 rfl _ _ w.heap.size rfl rfl (Lc.new w 0 0 0 (.slice none 0 0) (.slice none 0 0) 66)) rfl ?_
    exact ⟨_, _, congrArg Ending.returned r1, r2 _, r3 _, (Kp.refl w).alloc _⟩
  have HP : Hid (s.extract 0 4 = pfx) := hp
  rw [decide_eq_true hp] at hpe
  have hLd := fun w' => number_any (s.extract 46 50) (by rw [extract_size _ _ _ (by omega)]; omega) w'
  have hSl := fun w' => rsum_any (s.extract 0 46) (by rw [extract_size _ _ _ (by omega)]; omega) w'
  rw [sec_num s h64] at hLd
  rw [sec_sum s h64] at hSl
  have HSE : Hid (smE s ↔ nmN (fun i => bf s (46 + i)) 4 = smN (bf s) 46) := Iff.rfl
  have hlS := smN_lt (bf s) (bf_lt s) 46
  obtain ⟨NS, hNS⟩ : ∃ N, N = nmN (fun i => bf s (46 + i)) 4 := ⟨_, rfl⟩
  obtain ⟨SM, hSM⟩ : ∃ S, S = smN (bf s) 46 := ⟨_, rfl⟩
  rw [← hNS] at hLd HSE
  rw [← hSM] at hSl HSE hlS
  clear hNS hSM hp
  have hcv := wrap_u32 SM hlS
  have H64 : Hid (s.size = 64) := h64
  by_cases hsm : NS = SM
  case neg =>
    have HE : Hid (gtE s = 6) := gtE_sum H64.out HP.out (fun h => hsm (HSE.out.1 h))
    have hbs : ((NS : Int) != (SM : Int)) = true := by simp; omega
    clear hsm
    go_enter Tryz.func120, Tryz.ntmps120
    go_wp2_with fail
    rw [← HW.out]
    refine (hSl _).mono ?_; rintro e w1 ⟨rfl, e1⟩
    rw [e1]
    clear e1 w1 HW
    go_wp2_with fail
    refine (hLd _).mono ?_; rintro e w1 ⟨rfl, e1⟩
    rw [e1]
    clear e1 w1
    obtain ⟨⟨c0, c1, c2, c3, c4⟩, z, k⟩ := HL0.out W (Kp.refl W)
    clear hLd hSl
    go_wp2
    obtain ⟨r1, r2, r3⟩ := refused (s := s) (e := 6) HE.out (by omega) (over W w.heap.size 0 0 0 (.slice none 0 0) (.slice none 0 0))
    refine bodyPost_ret (results_rl2 rfl _ _ w.heap.size rfl rfl (Lc.over ⟨c0, c1, c2, c3, c4⟩)) rfl ?_
    exact ⟨_, _, congrArg Ending.returned r1, r2 _, r3 _, ((Trd.refl _ _).over _ _ _ _ _).kp w k (Nat.le_refl _)⟩
  have HSum : Hid (smE s) := HSE.out.2 hsm
  have hbs : ((NS : Int) != (SM : Int)) = false := by simp [hsm]
  clear hsm HSE
  have hi12 : 12 < s.size := by omega
  have hi13 : 13 < s.size := by omega
  have HB12 : Hid ((s[12]'hi12).toNat = bf s 12) := bf_at s 12 hi12
  have HB13 : Hid ((s[13]'hi13).toNat = bf s 13) := bf_at s 13 hi13
  have hx12 := bf_lt s 12
  have hx13 := bf_lt s 13
  have HPR : Hid (prs s = ⟨(bf s 12 : Nat), (bf s 13 : Nat), epN s, stL2 s (bf s 12), mkL2 s (bf s 12)⟩) := rfl
  obtain ⟨N, hN⟩ : ∃ N, N = bf s 12 := ⟨_, rfl⟩
  obtain ⟨S, hS⟩ : ∃ S, S = bf s 13 := ⟨_, rfl⟩
  rw [← hN] at HB12 hx12 HPR
  rw [← hS] at HB13 hx13 HPR
  have hw12 : wrap64 (((s[12]'hi12).toNat : Nat) : Int) = (N : Int) := by rw [HB12.out]; exact wrap_byte N hx12
  have hw13 : wrap64 (((s[13]'hi13).toNat : Nat) : Int) = (S : Int) := by rw [HB13.out]; exact wrap_byte S hx13
  have hv13 : IntKind.i64.wrap (((s[13]'hi13).toNat : Nat) : Int) = (S : Int) := by rw [HB13.out]; exact wrap_byte2 S hx13
  clear hN hS
  have HPN : Hid (lg (prs s) = true → 4 ≤ N ∧ N ≤ 32) := fun h => by
    have h1 := lg_gl h
    have h2 := h1.n1
    have h3 := h1.n2
    rw [HPR.out] at h2 h3
    simp only at h2 h3
    omega
  go_enter Tryz.func120, Tryz.ntmps120
  go_wp2_with fail
  rw [← HW.out]
  refine (hSl _).mono ?_; rintro e w1 ⟨rfl, e1⟩
  rw [e1]
  clear e1 w1 HW
  go_wp2_with fail
  refine (hLd _).mono ?_; rintro e w1 ⟨rfl, e1⟩
  rw [e1]
  clear e1 w1 hLd hSl
  by_cases hn1 : 4 ≤ N ∧ N ≤ 32
  case neg =>
    have HE : Hid (gtE s = 4) := gtE_not H64.out HP.out HSum.out (fun h => hn1 (HPN.out h.1))
    obtain ⟨⟨c0, c1, c2, c3, c4⟩, z, k⟩ := HL0.out W (Kp.refl W)
    by_cases hn4 : N < 4
    · clear hn1
      have hd : decide ((N : Int) < 4) = true := decide_eq_true (by omega)
      go_wp2
      obtain ⟨r1, r2, r3⟩ := refused (s := s) (e := 4) HE.out (by omega) (over W w.heap.size 0 0 0 (.slice none 0 0) (.slice none 0 0))
      refine bodyPost_ret (results_rl2 rfl _ _ w.heap.size rfl rfl (Lc.over ⟨c0, c1, c2, c3, c4⟩)) rfl ?_
      exact ⟨_, _, congrArg Ending.returned r1, r2 _, r3 _, ((Trd.refl _ _).over _ _ _ _ _).kp w k (Nat.le_refl _)⟩
    · have hn5 : 32 < N := by omega
      clear hn1
      go_wp2
      obtain ⟨r1, r2, r3⟩ := refused (s := s) (e := 4) HE.out (by omega) (over W w.heap.size 0 0 0 (.slice none 0 0) (.slice none 0 0))
      refine bodyPost_ret (results_rl2 rfl _ _ w.heap.size rfl rfl (Lc.over ⟨c0, c1, c2, c3, c4⟩)) rfl ?_
      exact ⟨_, _, congrArg Ending.returned r1, r2 _, r3 _, ((Trd.refl _ _).over _ _ _ _ _).kp w k (Nat.le_refl _)⟩
  obtain ⟨hn1, hn2⟩ := hn1
  have hs8 : (s.extract 4 12).size = 8 := by rw [extract_size _ _ _ (by omega)]
  have hNm := fun w' => number_any (s.extract 4 12) (by omega) w'
  have hnm : nmN (bf (s.extract 4 12)) (s.extract 4 12).size = nmN (fun i => bf s (4 + i)) 8 := by
    rw [hs8]
    exact nmN_congr 8 (fun i hi => bAt_extract s 4 12 i (by omega) (by omega))
  rw [hnm] at hNm
  have hwe : IntKind.i64.wrap ((nmN (fun i => bf s (4 + i)) 8 : Nat) : Int) = epN s := rfl
  obtain ⟨EP, hEP⟩ : ∃ EP, EP = epN s := ⟨_, rfl⟩
  obtain ⟨q, eq⟩ : ∃ q, q = nmN (fun i => bf s (4 + i)) 8 := ⟨_, rfl⟩
  rw [← hEP] at hwe HPR
  rw [← eq] at hNm hwe
  clear hnm hEP eq hs8
  go_wp2_with fail
  go_cut [6] (fun p wx => ∃ b, p = .pointer (some ⟨b, 0, none⟩) ∧ Hid (Lc wx b N S EP (.slice none 0 0) (.slice none 0 0)) ∧ Hid (∀ o, wx.frozen? ⟨b, o, none⟩ = false) ∧ Hid (b < wx.heap.size ∧ W.heap.size ≤ b) ∧ Hid (Kp W wx))
  case first =>
    have HEN : Hid (∀ t, Lc (W.alloc (.cells #[.int .i64 (N : Int), .int .i64 (S : Int), .int .i64 EP, .slice none 0 0, .slice none 0 0] t)).drew W.heap.size N S EP (.slice none 0 0) (.slice none 0 0)) := fun t => (Lc.new W N S EP _ _ t).kept (Kp.refl _).drew
    go_region_held3 (fun _ => True) (exact True.intro) (first | (go_at_call 147; refine (hNm _).mono ?_; rintro e wn ⟨rfl, e1⟩; rw [e1]; clear e1 wn))
    all_goals (go_wp2_with fail; go_meet)
    all_goals exact ⟨_, rfl, HEN.out _, fun o => by simp, ⟨by simp, Nat.le_refl _⟩, ((Kp.refl W).alloc _).drew⟩
  obtain ⟨B, rfl, HL1, HZ1, HB1, K1⟩ := hcut
  obtain ⟨w3, hw3⟩ : ∃ w3, w3 = wc := ⟨_, rfl⟩
  rw [← hw3] at HL1 HZ1 HB1 K1 ⊢
  clear hw3 hNm hwe hw12 hw13 hv13 hb hbs hpe hcv
  have HR0 : Hid (Rq 3 3 w w.heap.size w3.heap.size B N S EP w3 (.slice none 0 0) (.slice none 0 0) (stL2 s 0) (mkL2 s 0)) := by
    obtain ⟨q1, q2, q3⟩ := HL0.out _ K1.out
    have h0 : w.heap.size < w3.heap.size := World.block_lt_of_cell? _ _ q1.c0
    exact ⟨⟨HL1.out, HZ1.out, Oi.nil _ _ _, Oi.nil _ _ _, fun k hk => (by cases hk), HB1.out.1, Nat.le_refl _⟩, q1, q2, q3, h0, by have := HB1.out.2; omega, by omega, by have := HB1.out.2; omega⟩
  clear HL1 HZ1
  go_wp2
  go_loopw [7] (fun i wr => ∃ (k : Nat) (sv mv : Value), k ≤ N ∧ i = .int .i64 k ∧ Hid (Rq 3 3 w w.heap.size w3.heap.size B N S EP wr sv mv (stL2 s k) (mkL2 s k))) (fun i _ => N - (intOf i).toNat)
  case atStart => exact ⟨0, _, _, Nat.zero_le _, rfl, HR0⟩
  case round =>
    clear HR0
    obtain ⟨k, sv, mv, hk, rfl, HR⟩ := hrel
    obtain ⟨a1, n1, p1, rfl⟩ := HR.out.g.o1.shape
    obtain ⟨a2, n2, p2, rfl⟩ := HR.out.g.o2.shape
    obtain ⟨c0, c1, c2, c3, c4⟩ := HR.out.g.lb
    by_cases hlt : k < N
    · have htk : 14 + k < s.size := by omega
      have HB : Hid ((s[14 + k]'htk).toNat = bf s (14 + k)) := bf_at s (14 + k) htk
      have hx := bf_lt s (14 + k)
      have HS1 := stL2_step s k
      have HS2 := mkL2_step s k
      obtain ⟨x, ex⟩ : ∃ x, x = bf s (14 + k) := ⟨_, rfl⟩
      rw [← ex] at HB hx HS1 HS2
      clear ex
      have hwx : wrap64 (((s[14 + k]'htk).toNat : Nat) : Int) = ((x : Nat) : Int) := by rw [HB.out]; exact wrap_byte x hx
      have hvx : IntKind.i64.wrap (((s[14 + k]'htk).toNat : Nat) : Int) = ((x : Nat) : Int) := by rw [HB.out]; exact wrap_byte2 x hx
      obtain ⟨d1, d2, d3⟩ := byte_parts x hx
      obtain ⟨hi0, hi1, hi2, hi3⟩ := ix14 k (by omega)
      have hBl : B < wr.heap.size := World.block_lt_of_cell? _ _ c0
      have hBn : B ≠ wr.heap.size := by omega
      obtain ⟨y, hy⟩ : ∃ y, y = x / 64 := ⟨_, rfl⟩
      obtain ⟨z, hz⟩ : ∃ z, z = x % 64 := ⟨_, rfl⟩
      rw [← hy] at d1 d3 HS1
      rw [← hz] at d2 HS2
      have HT1 : Hid (stL2 s k ++ [((y : Nat) : Int)] = stL2 s (k + 1)) := HS1.symm
      have HT2 : Hid (mkL2 s k ++ [((z : Nat) : Int)] = mkL2 s (k + 1)) := HS2.symm
      clear hy hz HS1 HS2 HB
      go_wp2_with fail
      go_cut [7] (fun i wx => i = .int .i64 k ∧ ∃ b9 m9 q9, Hid (Rq 3 3 w w.heap.size w3.heap.size B N S EP wx (.slice b9 m9 q9) (.slice a2 n2 p2) (stL2 s (k + 1)) (mkL2 s k)))
      case first =>
        go_region_law (refine step_app_i eiI (by rfl) (.tmp 55) (.tmp 62) (by rfl) w3.heap.size _ (stL2 s k) (by rfl) (HR.out.kept (by first | exact ((Kp.refl wr).alloc _).drew | exact ((Kp.refl wr).drew).alloc _)).g.o1 ((y : Nat) : Int) wr.heap.size (by rfl) (by first | (rw [World.cell?_alloc_at _ _ _ _ rfl]; rfl) | (rw [World.cell?_drew, World.cell?_alloc_at _ _ _ _ rfl]; rfl)) (by rw [stL2_len]; omega) (by have := HR.out.g.hb; simp; omega) ?_; intro v2 w9 f9 a9; obtain ⟨b9, m9, q9, rfl⟩ := f9.shape; have HQ : Hid (Rq 3 3 w w.heap.size w3.heap.size B N S EP (w9.setCell ⟨B, 3, none⟩ (.slice b9 m9 q9)) (.slice b9 m9 q9) (.slice a2 n2 p2) (stL2 s (k + 1)) (mkL2 s k)) := (by have hh := (HR.out.kept (by first | exact ((Kp.refl wr).alloc _).drew | exact ((Kp.refl wr).drew).alloc _)).put1 a9 f9; rw [HT1.out] at hh; exact hh); obtain ⟨⟨e0, e1, e2, e3, e4⟩, z9⟩ := (HR.out.kept (by first | exact ((Kp.refl wr).alloc _).drew | exact ((Kp.refl wr).drew).alloc _)).g.after1 a9; clear f9 a9)
        all_goals (go_wp2_with fail; go_meet)
        all_goals exact ⟨rfl, _, _, _, HQ⟩
      obtain ⟨rfl, b1, m1, q1, HR2⟩ := hcut
      obtain ⟨wr2, hwr2⟩ : ∃ v, v = wc := ⟨_, rfl⟩
      rw [← hwr2] at HR2 ⊢
      clear HR hwr2 c0 c1 c2 c3 c4 hBl hBn
      obtain ⟨c0, c1, c2, c3, c4⟩ := HR2.out.g.lb
      have hBl : B < wr2.heap.size := World.block_lt_of_cell? _ _ c0
      have hBn : B ≠ wr2.heap.size := by omega
      go_wp2_with fail
      go_region_law (refine step_app_i eiI (by rfl) (.tmp 66) (.tmp 73) (by rfl) w3.heap.size _ (mkL2 s k) (by rfl) (HR2.out.kept (by first | exact ((Kp.refl wr2).alloc _).drew | exact ((Kp.refl wr2).drew).alloc _)).g.o2 ((z : Nat) : Int) wr2.heap.size (by rfl) (by first | (rw [World.cell?_alloc_at _ _ _ _ rfl]; rfl) | (rw [World.cell?_drew, World.cell?_alloc_at _ _ _ _ rfl]; rfl)) (by rw [mkL2_len]; omega) (by have := HR2.out.g.hb; simp; omega) ?_; intro v2 w9 f9 a9; obtain ⟨b9, m9, q9, rfl⟩ := f9.shape; have HQ : Hid (Rq 3 3 w w.heap.size w3.heap.size B N S EP (w9.setCell ⟨B, 4, none⟩ (.slice b9 m9 q9)) (.slice b1 m1 q1) (.slice b9 m9 q9) (stL2 s (k + 1)) (mkL2 s (k + 1))) := (by have hh := (HR2.out.kept (by first | exact ((Kp.refl wr2).alloc _).drew | exact ((Kp.refl wr2).drew).alloc _)).put2 a9 f9; rw [HT2.out] at hh; exact hh); obtain ⟨⟨e0, e1, e2, e3, e4⟩, z9⟩ := (HR2.out.kept (by first | exact ((Kp.refl wr2).alloc _).drew | exact ((Kp.refl wr2).drew).alloc _)).g.after2 a9; clear f9 a9)
      all_goals (
        clear c0 c1 c2 c3 c4 hBl hBn
        go_wp2
        go_roundw
        case rel => exact ⟨k + 1, _, _, by omega, by go_num, HQ⟩
        case measure => simp [intOf]; omega)
    · obtain rfl : k = N := by omega
      have NL := And.intro HR.out.g.o1.nums HR.out.g.o2.nums
      have hPu := fun w' (kk : Kp wr w') => rput_any ⟨(k : Int), (S : Int), EP, stL2 s k, mkL2 s k⟩ (.slice a1 n1 p1) (.slice a2 n2 p2) w' (NL.1.kept kk) (NL.2.kept kk)
      have HOK : Hid (okS s ↔ lg ⟨(k : Int), (S : Int), EP, stL2 s k, mkL2 s k⟩ = true ∧ ptS ⟨(k : Int), (S : Int), EP, stL2 s k, mkL2 s k⟩ = s) := by
        show _ ↔ _
        unfold okS
        rw [HPR.out]
      clear NL
      simp only at hPu
      unfold lV at hPu
      cases e2 : lg ⟨(k : Int), (S : Int), EP, stL2 s k, mkL2 s k⟩ with
      | false =>
        have HE : Hid (gtE s = 4) := gtE_not H64.out HP.out HSum.out (fun h => by have := (HOK.out.1 h).1; rw [e2] at this; cases this)
        have hpe : puE ⟨(k : Int), (S : Int), EP, stL2 s k, mkL2 s k⟩ = 4 := if_neg (by rw [e2]; simp)
        rw [hpe] at hPu
        obtain ⟨PS, hPS⟩ : ∃ PS, PS = puS ⟨(k : Int), (S : Int), EP, stL2 s k, mkL2 s k⟩ := ⟨_, rfl⟩
        rw [← hPS] at hPu
        clear hPS hpe e2 HOK
        go_wp2_with fail
        refine (hPu _ (Kp.refl wr)).mono ?_; rintro e w6 ⟨rfl, k6⟩
        have HR6 : Hid (Rq 3 3 w w.heap.size w3.heap.size B k S EP w6 (.slice a1 n1 p1) (.slice a2 n2 p2) (stL2 s k) (mkL2 s k)) := HR.out.kept k6
        clear hPu k6 c0 c1 c2 c3 c4
        obtain ⟨c0, c1, c2, c3, c4⟩ := HR6.out.l0
        have z := HR6.out.f0
        go_wp2
        obtain ⟨r1, r2, r3⟩ := refused (s := s) (e := 4) HE.out (by omega) (over w6 w.heap.size 0 0 0 (.slice none 0 0) (.slice none 0 0))
        refine bodyPost_ret (results_rl2 rfl _ _ w.heap.size rfl rfl (Lc.over ⟨c0, c1, c2, c3, c4⟩)) rfl ?_
        exact ⟨_, _, congrArg Ending.returned r1, r2 _, r3 _, ((Trd.refl _ _).over _ _ _ _ _).kp w HR6.out.k (Nat.le_refl _)⟩
      | true =>
        have hpe : puE ⟨(k : Int), (S : Int), EP, stL2 s k, mkL2 s k⟩ = 0 := if_pos e2
        have hps : puS ⟨(k : Int), (S : Int), EP, stL2 s k, mkL2 s k⟩ = ptS ⟨(k : Int), (S : Int), EP, stL2 s k, mkL2 s k⟩ := if_pos e2
        rw [hpe, hps] at hPu
        have HLG : Hid (lg ⟨(k : Int), (S : Int), EP, stL2 s k, mkL2 s k⟩ = true) := e2
        obtain ⟨PS, hPS⟩ : ∃ PS, PS = ptS ⟨(k : Int), (S : Int), EP, stL2 s k, mkL2 s k⟩ := ⟨_, rfl⟩
        rw [← hPS] at hPu HOK
        clear hPS hpe hps e2
        have hcmp := lst_eq PS s
        by_cases hq : PS = s
        case neg =>
          have HE : Hid (gtE s = 4) := gtE_not H64.out HP.out HSum.out (fun h => hq (HOK.out.1 h).2)
          rw [decide_eq_false hq] at hcmp
          clear hq HOK
          go_wp2_with fail
          refine (hPu _ (Kp.refl wr)).mono ?_; rintro e w6 ⟨rfl, k6⟩
          have HR6 : Hid (Rq 3 3 w w.heap.size w3.heap.size B k S EP w6 (.slice a1 n1 p1) (.slice a2 n2 p2) (stL2 s k) (mkL2 s k)) := HR.out.kept k6
          clear hPu k6 c0 c1 c2 c3 c4
          obtain ⟨c0, c1, c2, c3, c4⟩ := HR6.out.l0
          have z := HR6.out.f0
          go_wp2
          obtain ⟨r1, r2, r3⟩ := refused (s := s) (e := 4) HE.out (by omega) (over w6 w.heap.size 0 0 0 (.slice none 0 0) (.slice none 0 0))
          refine bodyPost_ret (results_rl2 rfl _ _ w.heap.size rfl rfl (Lc.over ⟨c0, c1, c2, c3, c4⟩)) rfl ?_
          exact ⟨_, _, congrArg Ending.returned r1, r2 _, r3 _, ((Trd.refl _ _).over _ _ _ _ _).kp w HR6.out.k (Nat.le_refl _)⟩
        rw [decide_eq_true hq] at hcmp
        have hE0 : gtE s = 0 := gtE_ok H64.out HP.out HSum.out (HOK.out.2 ⟨HLG.out, hq⟩)
        have HE : Hid (gtE s = 0) := hE0
        have HGL : Hid (gtL s = ⟨(k : Int), (S : Int), EP, stL2 s k, mkL2 s k⟩) := by show gtL s = _; rw [gtL_ok hE0, HPR.out]
        clear hq HOK hE0
        go_wp2_with fail
        refine (hPu _ (Kp.refl wr)).mono ?_; rintro e w6 ⟨rfl, k6⟩
        have HR6 : Hid (Rq 3 3 w w.heap.size w3.heap.size B k S EP w6 (.slice a1 n1 p1) (.slice a2 n2 p2) (stL2 s k) (mkL2 s k)) := HR.out.kept k6
        clear hPu k6 c0 c1 c2 c3 c4 HR
        obtain ⟨c0, c1, c2, c3, c4⟩ := HR6.out.l0
        obtain ⟨d0, d1, d2, d3, d4⟩ := HR6.out.g.lb
        have z := HR6.out.f0
        have hneB : w.heap.size ≠ B := HR6.out.ne
        have hneC : B ≠ w.heap.size := fun e => hneB e.symm
        go_wp2
        have t2 := (Trd.refl w.heap.size w6).over k S EP (.slice a1 n1 p1) (.slice a2 n2 p2)
        have n1 : Nn w.heap.size _ _ (stL2 s k) := (t2.oi HR6.out.g.o1 (HR6.out.g.n1 _ HR6.out.hr)).nn HR6.out.hw
        have n2 : Nn w.heap.size _ _ (mkL2 s k) := (t2.oi HR6.out.g.o2 (HR6.out.g.n2 _ HR6.out.hr)).nn HR6.out.hw
        refine bodyPost_ret (results_rl2 rfl _ _ w.heap.size rfl rfl (Lc.over (n2 := k) (s2 := S) (ep2 := EP) ⟨c0, c1, c2, c3, c4⟩)) rfl ?_
        rw [HGL.out, HE.out]
        exact ⟨_, _, rfl, n1, n2, t2.kp w HR6.out.k (Nat.le_refl _)⟩
theorem rget_any (s : ByteArray) (hs : s.size ≤ 9223372036854775807) (w : World) : Calls Tryz.prog 120 #[.string s] w fun e w' => ∃ sv mv, e = .returned (.tuple #[lV (gtL s).n (gtL s).s (gtL s).ep sv mv, .int .i64 (gtE s)]) ∧ Nl w' sv (gtL s).sts ∧ Nl w' mv (gtL s).mks ∧ Kp w w' :=
  (rget_new s hs w).mono fun _ _ ⟨sv, mv, h1, h2, h3, h4⟩ => ⟨sv, mv, h1, h2.nl, h3.nl, h4⟩

end Go.Proofs.YtinpkfdmellleaaGreat

namespace Go.Proofs.YtinpkfdmellleaaGreat
open Go.RowKit Plain
set_option linter.unusedVariables false

/-- two rows have no block in common. -/
def Apt (u v : Value) : Prop := ∀ k, u.ownBlock = some k → v.ownBlock ≠ some k
theorem Apt.symm {u v : Value} (h : Apt u v) : Apt v u := fun k hk hu => h k hu hk
theorem Ap.apt {w w' : World} {v v' u : Value} (a : Ap w w' v v') (h : Apt v u) (hu : ∀ k, u.ownBlock = some k → k < w.heap.size) : Apt v' u := fun k hk hu2 => by
  rcases a.own with e | e
  · exact h k (e.symm.trans hk) hu2
  · have h1 := hu k hu2
    have h2 : w.heap.size = k := Option.some.inj (e.symm.trans hk)
    omega
structure Tp (base A B : Nat) (n s ep : Int) (w : World) (c1 c2 c3 c4 : Value) (v1 v2 v3 v4 : Value) (l1 l2 l3 l4 : List Int) : Prop where
  la : Lc w A n s ep c1 c2
  lb : Lc w B n s ep c3 c4
  fa : ∀ o, w.frozen? ⟨A, o, none⟩ = false
  fb : ∀ o, w.frozen? ⟨B, o, none⟩ = false
  o1 : Oi 89 w base v1 l1
  o2 : Oi 3 w base v2 l2
  o3 : Oi 3 w base v3 l3
  o4 : Oi 3 w base v4 l4
  d12 : Apt v1 v2
  d13 : Apt v1 v3
  d14 : Apt v1 v4
  d23 : Apt v2 v3
  d24 : Apt v2 v4
  d34 : Apt v3 v4
  hA : A < base
  hB : B < base
  ne : A ≠ B
  hb : base ≤ w.heap.size
section
variable {base A B : Nat} {n s ep : Int} {w w' : World} {c1 c2 c3 c4 v1 v2 v3 v4 u : Value} {l1 l2 l3 l4 l : List Int}
theorem Tp.kept (h : Tp base A B n s ep w c1 c2 c3 c4 v1 v2 v3 v4 l1 l2 l3 l4) (k : Kp w w') : Tp base A B n s ep w' c1 c2 c3 c4 v1 v2 v3 v4 l1 l2 l3 l4 :=
  ⟨h.la.kept k, h.lb.kept k, fun o => (Below.frozen (p := ⟨A, o, none⟩) k (Nat.lt_of_lt_of_le h.hA h.hb)).trans (h.fa o), fun o => (Below.frozen (p := ⟨B, o, none⟩) k (Nat.lt_of_lt_of_le h.hB h.hb)).trans (h.fb o), h.o1.kept k, h.o2.kept k, h.o3.kept k, h.o4.kept k, h.d12, h.d13, h.d14, h.d23, h.d24, h.d34, h.hA, h.hB, h.ne, Nat.le_trans h.hb k.size⟩
theorem Oi.far {e : TypeId} {w : World} {base b : Nat} {v : Value} {l : List Int} (h : Oi e w base v l) (hb : b < base) : v.ownBlock ≠ some b := fun e => by have := (h.low b e).1; omega
theorem Tp.app1 (h : Tp base A B n s ep w c1 c2 c3 c4 v1 v2 v3 v4 l1 l2 l3 l4) (a : Ap w w' v1 u) (ho : Oi 89 w' base u l) : Tp base A B n s ep w' c1 c2 c3 c4 u v2 v3 v4 l l2 l3 l4 :=
  ⟨a.lc (h.o1.far h.hA) h.la, a.lc (h.o1.far h.hB) h.lb, fun o => (a.frozen (h.o1.far h.hA) (Nat.lt_of_lt_of_le h.hA h.hb)).trans (h.fa o), fun o => (a.frozen (h.o1.far h.hB) (Nat.lt_of_lt_of_le h.hB h.hb)).trans (h.fb o), ho, a.oi h.o2 (fun k hk hv => h.d12 k hv hk), a.oi h.o3 (fun k hk hv => h.d13 k hv hk), a.oi h.o4 (fun k hk hv => h.d14 k hv hk), a.apt h.d12 (fun k hk => (h.o2.low k hk).2), a.apt h.d13 (fun k hk => (h.o3.low k hk).2), a.apt h.d14 (fun k hk => (h.o4.low k hk).2), h.d23, h.d24, h.d34, h.hA, h.hB, h.ne, Nat.le_trans h.hb a.size⟩
theorem Tp.app2 (h : Tp base A B n s ep w c1 c2 c3 c4 v1 v2 v3 v4 l1 l2 l3 l4) (a : Ap w w' v2 u) (ho : Oi 3 w' base u l) : Tp base A B n s ep w' c1 c2 c3 c4 v1 u v3 v4 l1 l l3 l4 :=
  ⟨a.lc (h.o2.far h.hA) h.la, a.lc (h.o2.far h.hB) h.lb, fun o => (a.frozen (h.o2.far h.hA) (Nat.lt_of_lt_of_le h.hA h.hb)).trans (h.fa o), fun o => (a.frozen (h.o2.far h.hB) (Nat.lt_of_lt_of_le h.hB h.hb)).trans (h.fb o), a.oi h.o1 (fun k hk hv => h.d12.symm k hv hk), ho, a.oi h.o3 (fun k hk hv => h.d23 k hv hk), a.oi h.o4 (fun k hk hv => h.d24 k hv hk), (a.apt h.d12.symm (fun k hk => (h.o1.low k hk).2)).symm, h.d13, h.d14, a.apt h.d23 (fun k hk => (h.o3.low k hk).2), a.apt h.d24 (fun k hk => (h.o4.low k hk).2), h.d34, h.hA, h.hB, h.ne, Nat.le_trans h.hb a.size⟩
theorem Tp.app3 (h : Tp base A B n s ep w c1 c2 c3 c4 v1 v2 v3 v4 l1 l2 l3 l4) (a : Ap w w' v3 u) (ho : Oi 3 w' base u l) : Tp base A B n s ep w' c1 c2 c3 c4 v1 v2 u v4 l1 l2 l l4 :=
  ⟨a.lc (h.o3.far h.hA) h.la, a.lc (h.o3.far h.hB) h.lb, fun o => (a.frozen (h.o3.far h.hA) (Nat.lt_of_lt_of_le h.hA h.hb)).trans (h.fa o), fun o => (a.frozen (h.o3.far h.hB) (Nat.lt_of_lt_of_le h.hB h.hb)).trans (h.fb o), a.oi h.o1 (fun k hk hv => h.d13.symm k hv hk), a.oi h.o2 (fun k hk hv => h.d23.symm k hv hk), ho, a.oi h.o4 (fun k hk hv => h.d34 k hv hk), h.d12, (a.apt h.d13.symm (fun k hk => (h.o1.low k hk).2)).symm, h.d14, (a.apt h.d23.symm (fun k hk => (h.o2.low k hk).2)).symm, h.d24, a.apt h.d34 (fun k hk => (h.o4.low k hk).2), h.hA, h.hB, h.ne, Nat.le_trans h.hb a.size⟩
theorem Tp.app4 (h : Tp base A B n s ep w c1 c2 c3 c4 v1 v2 v3 v4 l1 l2 l3 l4) (a : Ap w w' v4 u) (ho : Oi 3 w' base u l) : Tp base A B n s ep w' c1 c2 c3 c4 v1 v2 v3 u l1 l2 l3 l :=
  ⟨a.lc (h.o4.far h.hA) h.la, a.lc (h.o4.far h.hB) h.lb, fun o => (a.frozen (h.o4.far h.hA) (Nat.lt_of_lt_of_le h.hA h.hb)).trans (h.fa o), fun o => (a.frozen (h.o4.far h.hB) (Nat.lt_of_lt_of_le h.hB h.hb)).trans (h.fb o), a.oi h.o1 (fun k hk hv => h.d14.symm k hv hk), a.oi h.o2 (fun k hk hv => h.d24.symm k hv hk), a.oi h.o3 (fun k hk hv => h.d34.symm k hv hk), ho, h.d12, h.d13, (a.apt h.d14.symm (fun k hk => (h.o1.low k hk).2)).symm, h.d23, (a.apt h.d24.symm (fun k hk => (h.o2.low k hk).2)).symm, (a.apt h.d34.symm (fun k hk => (h.o3.low k hk).2)).symm, h.hA, h.hB, h.ne, Nat.le_trans h.hb a.size⟩
theorem Tp.st1 (h : Tp base A B n s ep w c1 c2 c3 c4 v1 v2 v3 v4 l1 l2 l3 l4) (u : Value) : Tp base A B n s ep (w.setCell ⟨A, 3, none⟩ u) u c2 c3 c4 v1 v2 v3 v4 l1 l2 l3 l4 := by
  have t : Trd A w (w.setCell ⟨A, 3, none⟩ u) := (Trd.refl A w).setCell 3 _
  have hz := t.size
  have hb := h.hb
  exact ⟨h.la.set3 u, t.lc (fun e => h.ne e.symm) h.lb, fun o => by rw [World.frozen?_setCell]; exact h.fa o, fun o => by rw [World.frozen?_setCell]; exact h.fb o, t.oi h.o1 (h.o1.far h.hA), t.oi h.o2 (h.o2.far h.hA), t.oi h.o3 (h.o3.far h.hA), t.oi h.o4 (h.o4.far h.hA), h.d12, h.d13, h.d14, h.d23, h.d24, h.d34, h.hA, h.hB, h.ne, by omega⟩
theorem Tp.st2 (h : Tp base A B n s ep w c1 c2 c3 c4 v1 v2 v3 v4 l1 l2 l3 l4) (u : Value) : Tp base A B n s ep (w.setCell ⟨A, 4, none⟩ u) c1 u c3 c4 v1 v2 v3 v4 l1 l2 l3 l4 := by
  have t : Trd A w (w.setCell ⟨A, 4, none⟩ u) := (Trd.refl A w).setCell 4 _
  have hz := t.size
  have hb := h.hb
  exact ⟨h.la.set4 u, t.lc (fun e => h.ne e.symm) h.lb, fun o => by rw [World.frozen?_setCell]; exact h.fa o, fun o => by rw [World.frozen?_setCell]; exact h.fb o, t.oi h.o1 (h.o1.far h.hA), t.oi h.o2 (h.o2.far h.hA), t.oi h.o3 (h.o3.far h.hA), t.oi h.o4 (h.o4.far h.hA), h.d12, h.d13, h.d14, h.d23, h.d24, h.d34, h.hA, h.hB, h.ne, by omega⟩
theorem Tp.st3 (h : Tp base A B n s ep w c1 c2 c3 c4 v1 v2 v3 v4 l1 l2 l3 l4) (u : Value) : Tp base A B n s ep (w.setCell ⟨B, 3, none⟩ u) c1 c2 u c4 v1 v2 v3 v4 l1 l2 l3 l4 := by
  have t : Trd B w (w.setCell ⟨B, 3, none⟩ u) := (Trd.refl B w).setCell 3 _
  have hz := t.size
  have hb := h.hb
  exact ⟨t.lc h.ne h.la, h.lb.set3 u, fun o => by rw [World.frozen?_setCell]; exact h.fa o, fun o => by rw [World.frozen?_setCell]; exact h.fb o, t.oi h.o1 (h.o1.far h.hB), t.oi h.o2 (h.o2.far h.hB), t.oi h.o3 (h.o3.far h.hB), t.oi h.o4 (h.o4.far h.hB), h.d12, h.d13, h.d14, h.d23, h.d24, h.d34, h.hA, h.hB, h.ne, by omega⟩
theorem Tp.st4 (h : Tp base A B n s ep w c1 c2 c3 c4 v1 v2 v3 v4 l1 l2 l3 l4) (u : Value) : Tp base A B n s ep (w.setCell ⟨B, 4, none⟩ u) c1 c2 c3 u v1 v2 v3 v4 l1 l2 l3 l4 := by
  have t : Trd B w (w.setCell ⟨B, 4, none⟩ u) := (Trd.refl B w).setCell 4 _
  have hz := t.size
  have hb := h.hb
  exact ⟨t.lc h.ne h.la, h.lb.set4 u, fun o => by rw [World.frozen?_setCell]; exact h.fa o, fun o => by rw [World.frozen?_setCell]; exact h.fb o, t.oi h.o1 (h.o1.far h.hB), t.oi h.o2 (h.o2.far h.hB), t.oi h.o3 (h.o3.far h.hB), t.oi h.o4 (h.o4.far h.hB), h.d12, h.d13, h.d14, h.d23, h.d24, h.d34, h.hA, h.hB, h.ne, by omega⟩
end

end Go.Proofs.YtinpkfdmellleaaGreat

namespace Go.Proofs.YtinpkfdmellleaaGreat
open Go.RowKit Plain
set_option linter.unusedVariables false

theorem wh_no {L : LB} {m t : Int} (h : ¬ (lg L = true ∧ (0 ≤ m ∧ m < L.n) ∧ 0 ≤ t ∧ t < L.s)) : wh L m t = false := by
  rw [Bool.eq_false_iff, ne_eq]
  intro hh
  apply h
  unfold wh at hh
  simp only [Bool.and_eq_true, decide_eq_true_eq] at hh
  exact ⟨hh.1.1.1, hh.1.1.2, hh.1.2⟩
theorem wh_in {L : LB} {m t : Int} (h1 : lg L = true) (h2 : 0 ≤ m ∧ m < L.n) (h3 : 0 ≤ t ∧ t < L.s) : wh L m t = (decide (L.sts.getD m.toNat 0 = 0) || (decide (L.sts.getD m.toNat 0 = 2) && decide (t < L.mks.getD m.toNat 0))) := by
  unfold wh
  rw [h1, decide_eq_true h2, decide_eq_true h3]
  rfl
theorem col_in {n s t m : Int} (h : gg n s = true) (h2 : (0 ≤ t ∧ t < s) ∧ 0 ≤ m ∧ m < n) : col n s t m = (cM n t m, 0) := (if_pos h).trans (if_pos h2)
theorem col_out {n s t m : Int} (h : gg n s = true) (h2 : ¬ ((0 ≤ t ∧ t < s) ∧ 0 ≤ m ∧ m < n)) : col n s t m = (0, 3) := (if_pos h).trans (if_neg h2)
set_option maxRecDepth 100000 in
set_option maxHeartbeats 2000000 in
theorem lmiss_any (L : LB) (sv mv : Value) (w : World) (h1 : Nl w sv L.sts) (h2 : Nl w mv L.mks) : Calls Tryz.prog 38 #[lV L.n L.s L.ep sv mv] w fun e w' => e = .returned (.int .i64 (ms L : Nat)) ∧ Kp w w' := by
  have hG := fun w' (k : Kp w w') => lgood_any L sv mv w' (h1.kept k) (h2.kept k)
  obtain ⟨a1, g1, o1, p1, rfl, A1⟩ := h1
  obtain ⟨a2, g2, o2, p2, rfl, A2⟩ := h2
  have HN : lg L = false → ms L = 0 := fun h => if_neg (by rw [h]; simp)
  have HI : lg L = true → ms L = mcL9 L.sts := fun h => if_pos h
  have HL := @lg_gl L
  obtain ⟨X, eX⟩ : ∃ X, X = ms L := ⟨_, rfl⟩
  rw [← eX] at HN HI ⊢
  clear eX
  obtain ⟨n, s, ep, sts, mks⟩ := L
  simp only at *
  obtain ⟨N1, hN1⟩ : ∃ N, N = sts.length := ⟨_, rfl⟩
  obtain ⟨N2, hN2⟩ : ∃ N, N = mks.length := ⟨_, rfl⟩
  rw [← hN1] at hG ⊢
  rw [← hN2] at hG ⊢
  unfold lV at hG ⊢
  cases e1 : lg ⟨n, s, ep, sts, mks⟩ with
  | false =>
    have HF : Hid (X = 0) := HN e1
    rw [e1] at hG
    clear HN HI HL e1 A1 A2 hN1 hN2
    go_enter Tryz.func38, Tryz.ntmps38
    go_wp2_with fail
    refine (hG _ ((Kp.refl w).alloc _)).mono ?_; rintro e w1 ⟨rfl, k1⟩
    have K1 : Kp w w1 := ((Kp.refl w).alloc _).trans k1
    clear hG k1
    go_wp2
    go_ret
    exact ⟨by rw [HF.out]; rfl, K1⟩
  | true =>
    rw [e1] at hG
    have hL := HL e1
    have hl1 := hL.l1
    have hn2 := hL.n2
    simp only at hl1 hn2
    have HF : Hid (X = mcL9 sts) := HI e1
    have i1 := A1.ha
    rw [← hN1] at i1
    have HA1 : Hid (∀ j, j < N1 → w.cell? ⟨g1, o1 + j, none⟩ = some (.int .i64 (sts.getD j 0))) := fun j hj => A1.c j (by omega)
    have HS : Hid (∀ k, k < N1 → mcL9 (sts.take (k + 1)) = mcL9 (sts.take k) + (if sts.getD k 0 = 0 then 0 else 1)) := fun k hk => mc_step sts k (by omega)
    have HE : Hid (sts.take N1 = sts) := by show sts.take N1 = sts; rw [hN1, List.take_length]
    have HZ : Hid (mcL9 (sts.take 0) = 0) := rfl
    have hm : N1 ≤ 32 := by omega
    clear HN HI HL e1 A1 A2 hN1 hN2 hL hl1 hn2
    go_enter Tryz.func38, Tryz.ntmps38
    go_wp2_with fail
    refine (hG _ ((Kp.refl w).alloc _)).mono ?_; rintro e w1 ⟨rfl, k1⟩
    have hl := (Lc.new w n s ep (.slice a1 N1 p1) (.slice a2 N2 p2) 63).kept k1
    have HLc : Hid (Lc w1 w.heap.size n s ep (.slice a1 N1 p1) (.slice a2 N2 p2)) := hl
    obtain ⟨c0, c1, c2, c3, c4⟩ := hl
    have K1 : Hid (Kp w w1) := ((Kp.refl w).alloc _).trans k1
    clear hG k1
    go_wp2
    clear c0 c1 c2 c3 c4
    go_loopw [3, 12] (fun c i wr => ∃ k q : Nat, k ≤ N1 ∧ i = .int .i64 k ∧ c = .int .i64 q ∧ q ≤ k ∧ Hid (q = mcL9 (sts.take k)) ∧ Kp w1 wr) (fun _ i _ => N1 - (intOf i).toNat)
    case atStart => exact ⟨0, 0, Nat.zero_le _, rfl, rfl, Nat.zero_le _, HZ.out.symm, Kp.refl w1⟩
    case round =>
      obtain ⟨k, q, hk, rfl, rfl, hq, HQ, hK⟩ := hrel
      obtain ⟨c0, c1, c2, c3, c4⟩ := HLc.out.kept hK
      by_cases hlt : k < N1
      · obtain rfl := i1 (by omega)
        have d0 := (K1.out.trans hK).held (HA1.out k hlt)
        have hS := HS.out k hlt
        obtain ⟨x, hx⟩ : ∃ x, x = sts.getD k 0 := ⟨_, rfl⟩
        rw [← hx] at d0 hS
        by_cases h0 : x = 0
        · have HQ2 : Hid (q = mcL9 (sts.take (k + 1))) := by show q = _; rw [hS, if_pos h0, HQ.out]; rfl
          have b0 : (x != 0) = false := by simpa using h0
          clear hx hS h0
          go_wp2
          go_roundw
          case rel => exact ⟨k + 1, q, by omega, by go_num, rfl, by omega, HQ2, hK⟩
          case measure => simp [intOf]; omega
        · have HQ2 : Hid (q + 1 = mcL9 (sts.take (k + 1))) := by show q + 1 = _; rw [hS, if_neg h0, HQ.out]
          have b0 : (x != 0) = true := by simpa using h0
          clear hx hS h0
          go_wp2
          go_roundw
          case rel => exact ⟨k + 1, q + 1, by omega, by go_num, by go_num, by omega, HQ2, hK⟩
          case measure => simp [intOf]; omega
      · obtain rfl : N1 = k := by omega
        have HG : Hid (X = q) := by show X = q; rw [HF.out, HQ.out, HE.out]
        go_wp2
        go_ret
        exact ⟨by rw [HG.out]; rfl, K1.out.trans hK⟩

end Go.Proofs.YtinpkfdmellleaaGreat

namespace Go.Proofs.YtinpkfdmellleaaGreat
open Go.RowKit Plain
set_option linter.unusedVariables false

theorem hid2 {p : Prop} (h : p) : Hid p := h
set_option maxRecDepth 100000 in
set_option maxHeartbeats 1000000 in
theorem cloneS_any (v : Value) (l : List Int) (w : World) (h : Nl w v l) (hl : l.length ≤ 1000) : Calls Tryz.prog 121 #[v] w fun r w' => ∃ u, r = .returned u ∧ Oi 89 w' w.heap.size u l ∧ Kp w w' := by
  obtain ⟨a, g, off, cap, rfl, A⟩ := h
  cases a with
  | none =>
    have h0 : l.length = 0 := by
      by_cases h : 0 < l.length
      · have := A.ha h; cases this
      · omega
    obtain rfl : l = [] := List.eq_nil_of_length_eq_zero h0
    have heq := run_eql_slice_nil (P := Tryz.prog) w 60 89 none 0 cap eiS.u
    simp only [Option.isNone_none] at heq
    simp only [List.length_nil]
    go_enter Tryz.func121, Tryz.ntmps121
    go_wp2
    go_ret
    exact ⟨_, rfl, Oi.nil _ _ _, Kp.refl w⟩
  | some ad =>
    have hown : (w.alloc (.cells #[] 89)).ownsRow w.heap.size 89 1 (.slice (some ⟨w.heap.size, 0, none⟩) 0 0) 0 [] := ⟨rfl, .inr ⟨w.heap.size, 0, #[], rfl, Nat.le_refl _, heap_alloc_new w _, Nat.le_refl _, by unfold maxLen; omega, rfl, rfl⟩⟩
    obtain ⟨i0, hi, hz0, hz1, hz2⟩ := info_parts eiS.i
    have hnews : ∀ j u, (l.map (Value.int .i64))[j]? = some u → (w.alloc (.cells #[] 89)).cell? (ad.add j) = some u := fun j u hj => by
      have hjl : j < l.length := by have := (List.getElem?_eq_some_iff.1 hj).1; simpa using this
      have hc := A.c j hjl
      obtain rfl : ad = ⟨g, off, none⟩ := by have := A.ha (by omega); exact Option.some.inj this
      have hadd : (⟨g, off, none⟩ : Addr).add j = ⟨g, off + j, none⟩ := by simp [Addr.add]
      rw [hadd, ((Kp.refl w).alloc _).held hc]
      rw [List.getElem?_map, List.getElem?_eq_getElem hjl] at hj
      simp at hj
      rw [← hj, List.getD_eq_getElem?_getD, List.getElem?_eq_getElem hjl]
      rfl
    have hone : ∀ u ∈ l.map (Value.int .i64), u.oneCell' = true := by intro u hu; obtain ⟨x, _, rfl⟩ := List.mem_map.1 hu; rfl
    have hlen : (l.map (Value.int .i64)).length = l.length * 1 := by simp
    obtain ⟨N, hN⟩ : ∃ N, N = l.length := ⟨_, rfl⟩
    have HN := hid2 hN
    rw [← hN] at hlen hl ⊢
    have heq := run_eql_slice_nil (P := Tryz.prog) w 60 89 (some ad) N cap eiS.u
    simp only [Option.isNone_some] at heq
    have HNW := hid2 hnews
    have HON := hid2 hone
    have HLE := hid2 hlen
    have HOW := hid2 hown
    clear A hN hnews hone hlen hown
    go_enter Tryz.func121, Tryz.ntmps121
    go_wp2_with (at_builtin; refine wpList_append_own_at _ rfl _ _ 60 rfl w.heap.size 89 i0 (.int .i64 0) 1 8 eiS.u hi hz0 hz1 hz2 rfl (by decide) _ 0 [] rfl HOW.out ad N cap (l.map (Value.int .i64)) rfl HLE.out HNW.out HON.out (by unfold maxLen; omega) (by omega) (by simp) ?_; intro v' w' h2 h3 h4 h5; have K : Kp w w' := Kp.grown ((Kp.refl w).alloc _) h3 (fun k hk => by obtain rfl : w.heap.size = k := Option.some.inj hk; exact Nat.le_refl _); have HO : Hid (Oi 89 w' w.heap.size v' l) := (by show Oi _ _ _ _ _; unfold Oi; rw [Nat.zero_add, List.nil_append, HN.out] at h2; exact h2); clear h2 h3 h4 h5)
    go_ret
    exact ⟨_, rfl, HO.out, K⟩
set_option maxRecDepth 100000 in
set_option maxHeartbeats 1000000 in
theorem cloneI_any (v : Value) (l : List Int) (w : World) (h : Nl w v l) (hl : l.length ≤ 1000) : Calls Tryz.prog 122 #[v] w fun r w' => ∃ u, r = .returned u ∧ Oi 3 w' w.heap.size u l ∧ Kp w w' := by
  obtain ⟨a, g, off, cap, rfl, A⟩ := h
  cases a with
  | none =>
    have h0 : l.length = 0 := by
      by_cases h : 0 < l.length
      · have := A.ha h; cases this
      · omega
    obtain rfl : l = [] := List.eq_nil_of_length_eq_zero h0
    have heq := run_eql_slice_nil (P := Tryz.prog) w 61 3 none 0 cap eiI.u
    simp only [Option.isNone_none] at heq
    simp only [List.length_nil]
    go_enter Tryz.func122, Tryz.ntmps122
    go_wp2
    go_ret
    exact ⟨_, rfl, Oi.nil _ _ _, Kp.refl w⟩
  | some ad =>
    have hown : (w.alloc (.cells #[] 3)).ownsRow w.heap.size 3 1 (.slice (some ⟨w.heap.size, 0, none⟩) 0 0) 0 [] := ⟨rfl, .inr ⟨w.heap.size, 0, #[], rfl, Nat.le_refl _, heap_alloc_new w _, Nat.le_refl _, by unfold maxLen; omega, rfl, rfl⟩⟩
    obtain ⟨i0, hi, hz0, hz1, hz2⟩ := info_parts eiI.i
    have hnews : ∀ j u, (l.map (Value.int .i64))[j]? = some u → (w.alloc (.cells #[] 3)).cell? (ad.add j) = some u := fun j u hj => by
      have hjl : j < l.length := by have := (List.getElem?_eq_some_iff.1 hj).1; simpa using this
      have hc := A.c j hjl
      obtain rfl : ad = ⟨g, off, none⟩ := by have := A.ha (by omega); exact Option.some.inj this
      have hadd : (⟨g, off, none⟩ : Addr).add j = ⟨g, off + j, none⟩ := by simp [Addr.add]
      rw [hadd, ((Kp.refl w).alloc _).held hc]
      rw [List.getElem?_map, List.getElem?_eq_getElem hjl] at hj
      simp at hj
      rw [← hj, List.getD_eq_getElem?_getD, List.getElem?_eq_getElem hjl]
      rfl
    have hone : ∀ u ∈ l.map (Value.int .i64), u.oneCell' = true := by intro u hu; obtain ⟨x, _, rfl⟩ := List.mem_map.1 hu; rfl
    have hlen : (l.map (Value.int .i64)).length = l.length * 1 := by simp
    obtain ⟨N, hN⟩ : ∃ N, N = l.length := ⟨_, rfl⟩
    have HN := hid2 hN
    rw [← hN] at hlen hl ⊢
    have heq := run_eql_slice_nil (P := Tryz.prog) w 61 3 (some ad) N cap eiI.u
    simp only [Option.isNone_some] at heq
    have HNW := hid2 hnews
    have HON := hid2 hone
    have HLE := hid2 hlen
    have HOW := hid2 hown
    clear A hN hnews hone hlen hown
    go_enter Tryz.func122, Tryz.ntmps122
    go_wp2_with (at_builtin; refine wpList_append_own_at _ rfl _ _ 61 rfl w.heap.size 3 i0 (.int .i64 0) 1 8 eiI.u hi hz0 hz1 hz2 rfl (by decide) _ 0 [] rfl HOW.out ad N cap (l.map (Value.int .i64)) rfl HLE.out HNW.out HON.out (by unfold maxLen; omega) (by omega) (by simp) ?_; intro v' w' h2 h3 h4 h5; have K : Kp w w' := Kp.grown ((Kp.refl w).alloc _) h3 (fun k hk => by obtain rfl : w.heap.size = k := Option.some.inj hk; exact Nat.le_refl _); have HO : Hid (Oi 3 w' w.heap.size v' l) := (by show Oi _ _ _ _ _; unfold Oi; rw [Nat.zero_add, List.nil_append, HN.out] at h2; exact h2); clear h2 h3 h4 h5)
    go_ret
    exact ⟨_, rfl, HO.out, K⟩
theorem Oi.mono {e : TypeId} {w : World} {base b2 : Nat} {v : Value} {l : List Int} (h : Oi e w base v l) (hb : b2 ≤ base) : Oi e w b2 v l := by
  refine ⟨h.1, ?_⟩
  rcases h.2 with h' | ⟨g, cap, cur, h', hb', hr⟩
  · exact .inl h'
  · exact .inr ⟨g, cap, cur, h', by omega, hr⟩
set_option maxRecDepth 100000 in
set_option maxHeartbeats 2000000 in
theorem copy_any (n s ep : Int) (l m : List Int) (sv mv : Value) (w : World) (h1 : Nl w sv l) (h2 : Nl w mv m) (hl : l.length ≤ 1000) (hm : m.length ≤ 1000) : Calls Tryz.prog 73 #[lV n s ep sv mv] w fun e w' => ∃ u1 u2, e = .returned (lV n s ep u1 u2) ∧ Oi 89 w' w.heap.size u1 l ∧ Oi 3 w' w.heap.size u2 m ∧ Apt u1 u2 ∧ Kp w w' := by
  obtain ⟨a1, n1, p1, rfl⟩ : ∃ a n c, sv = .slice a n c := by obtain ⟨a, g, off, cap, rfl, _⟩ := h1; exact ⟨_, _, _, rfl⟩
  obtain ⟨a2, n2, p2, rfl⟩ : ∃ a n c, mv = .slice a n c := by obtain ⟨a, g, off, cap, rfl, _⟩ := h2; exact ⟨_, _, _, rfl⟩
  have hC1 := fun w' (k : Kp w w') => cloneS_any _ l w' (h1.kept k) hl
  have hC2 := fun w' (k : Kp w w') => cloneI_any _ m w' (h2.kept k) hm
  unfold lV
  clear h1 h2
  go_enter Tryz.func73, Tryz.ntmps73
  go_wp2_with fail
  refine (hC1 _ (((Kp.refl w).alloc _).alloc _)).mono ?_; rintro e w1 ⟨u1, rfl, o1, k1⟩
  obtain ⟨b1, m1, q1, rfl⟩ := o1.shape
  have hz : ((w.alloc (.cells #[.int .i64 n, .int .i64 s, .int .i64 ep, .slice a1 n1 p1, .slice a2 n2 p2] 63)).alloc (.cells #[.int .i64 0, .int .i64 0, .int .i64 0, .slice none 0 0, .slice none 0 0] 63)).heap.size = w.heap.size + 1 + 1 := by simp
  have l1 : Lc w1 w.heap.size n s ep (.slice a1 n1 p1) (.slice a2 n2 p2) := ((Lc.new w n s ep _ _ 63).kept ((Kp.refl _).alloc _)).kept k1
  have l2 : Lc w1 (w.heap.size + 1) 0 0 0 (.slice none 0 0) (.slice none 0 0) := by
    have := Lc.new (w.alloc (.cells #[.int .i64 n, .int .i64 s, .int .i64 ep, .slice a1 n1 p1, .slice a2 n2 p2] 63)) 0 0 0 (.slice none 0 0) (.slice none 0 0) 63
    rw [show (w.alloc (.cells #[.int .i64 n, .int .i64 s, .int .i64 ep, .slice a1 n1 p1, .slice a2 n2 p2] 63)).heap.size = w.heap.size + 1 by simp] at this
    exact this.kept k1
  have z1 : ∀ o, w1.frozen? ⟨w.heap.size, o, none⟩ = false := fun o => (Below.frozen (p := ⟨w.heap.size, o, none⟩) k1 (by simp; omega)).trans ((Below.frozen (p := ⟨w.heap.size, o, none⟩) ((Kp.refl _).alloc _) (by simp)).trans (by simp))
  have z2 : ∀ o, w1.frozen? ⟨w.heap.size + 1, o, none⟩ = false := fun o => (Below.frozen (p := ⟨w.heap.size + 1, o, none⟩) k1 (by simp)).trans (by simp)
  have K1 : Kp w w1 := (((Kp.refl w).alloc _).alloc _).trans k1
  rw [hz] at o1
  obtain ⟨c0, c1, c2, c3, c4⟩ := l1
  have HL1 : Hid (Lc w1 w.heap.size n s ep (.slice a1 n1 p1) (.slice a2 n2 p2)) := ⟨c0, c1, c2, c3, c4⟩
  have HL2 : Hid (Lc w1 (w.heap.size + 1) 0 0 0 (.slice none 0 0) (.slice none 0 0)) := l2
  have HO1 : Hid (Oi 89 w1 (w.heap.size + 1 + 1) (.slice b1 m1 q1) l) := o1
  have HK1 : Hid (Kp w w1) := K1
  have hs1 : w.heap.size + 1 < w1.heap.size := World.block_lt_of_cell? _ _ l2.c0
  have HZ1 : Hid (∀ o, w1.frozen? ⟨w.heap.size, o, none⟩ = false) := z1
  have HZ2 : Hid (∀ o, w1.frozen? ⟨w.heap.size + 1, o, none⟩ = false) := z2
  clear hC1 hz l2 o1 K1 k1 z2
  have t1 : Trd w.heap.size w1 (w1.setCell ⟨w.heap.size, 3, none⟩ (.slice b1 m1 q1)) := (Trd.refl _ w1).setCell 3 _
  have HT1 : Hid (Trd w.heap.size w1 (w1.setCell ⟨w.heap.size, 3, none⟩ (.slice b1 m1 q1))) := t1
  have hC3 := hC2 _ (t1.kp w HK1.out (Nat.le_refl _))
  clear hC2 t1
  go_wp2_with fail
  refine hC3.mono ?_; rintro e w2 ⟨u2, rfl, o2, k2⟩
  obtain ⟨b2, m2, q2, rfl⟩ := o2.shape
  have hsz : (w1.setCell ⟨w.heap.size, 3, none⟩ (.slice b1 m1 q1)).heap.size = w1.heap.size := World.size_setCell _ _ _
  rw [hsz] at o2
  have l3 := (HL1.out.set3 (.slice b1 m1 q1)).kept k2
  have l4 := (HT1.out.lc (c := w.heap.size + 1) (by omega) HL2.out).kept k2
  have HO2 : Hid (Oi 3 w2 w1.heap.size (.slice b2 m2 q2) m) := o2
  have HO3 : Hid (Oi 89 w2 (w.heap.size + 1 + 1) (.slice b1 m1 q1) l) := (HT1.out.oi HO1.out (HO1.out.far (by omega))).kept k2
  have HK2 : Hid (Kp w w2) := (HT1.out.kp w HK1.out (Nat.le_refl _)).trans k2
  have HAp : Hid (Apt (.slice b1 m1 q1) (.slice b2 m2 q2)) := fun k hk hk2 => by
    have h1 := (HO1.out.low k hk).2
    have h2 := (HO2.out.low k hk2).1
    omega
  have z3 : ∀ o, w2.frozen? ⟨w.heap.size, o, none⟩ = false := fun o => (Below.frozen (p := ⟨w.heap.size, o, none⟩) k2 (by rw [hsz]; show w.heap.size < _; omega)).trans (by rw [World.frozen?_setCell]; exact HZ1.out o)
  have z4 : ∀ o, w2.frozen? ⟨w.heap.size + 1, o, none⟩ = false := fun o => (Below.frozen (p := ⟨w.heap.size + 1, o, none⟩) k2 (by rw [hsz]; exact hs1)).trans (by rw [World.frozen?_setCell]; exact HZ2.out o)
  have HL4 : Hid (Lc w2 (w.heap.size + 1) 0 0 0 (.slice none 0 0) (.slice none 0 0)) := l4
  obtain ⟨d0, d1, d2, d3, d4⟩ := l3
  obtain ⟨e0, e1, e2, e3, e4⟩ := l4
  clear hC3 o2 k2 c0 c1 c2 c3 c4 z1 hsz
  go_wp2
  have t5 : Trd w.heap.size w2 (w2.setCell ⟨w.heap.size, 4, none⟩ (.slice b2 m2 q2)) := (Trd.refl _ w2).setCell 4 _
  have t6 := (Trd.refl (w.heap.size + 1) (w2.setCell ⟨w.heap.size, 4, none⟩ (.slice b2 m2 q2))).over n s ep (.slice b1 m1 q1) (.slice b2 m2 q2)
  have r1 := t6.oi (t5.oi HO3.out (HO3.out.far (by omega))) (HO3.out.far (by omega))
  have r2 := t6.oi (t5.oi HO2.out (HO2.out.far (by omega))) (HO2.out.far (by omega))
  have lf := (t5.lc (c := w.heap.size + 1) (by omega) HL4.out).over (n2 := n) (s2 := s) (ep2 := ep) (sv2 := .slice b1 m1 q1) (mv2 := .slice b2 m2 q2)
  refine bodyPost_ret (results_lb rfl _ _ (w.heap.size + 1) rfl lf) rfl ?_
  exact ⟨_, _, rfl, r1.mono (by omega), r2.mono (by omega), HAp.out, t6.kp w (t5.kp w HK2.out (Nat.le_refl _)) (by omega)⟩

end Go.Proofs.YtinpkfdmellleaaGreat

namespace Go.Proofs.YtinpkfdmellleaaGreat
open Go.RowKit Plain
set_option linter.unusedVariables false

theorem hid3 {p : Prop} (h : p) : Hid p := h
/-- a label L at block X, a label as it was made at block R; L's lists lie above both. -/
structure NwL9 (w : World) (R X : Nat) (L : LB) (u1 u2 : Value) (wr : World) : Prop where
  l0 : Lc wr R 0 0 0 (.slice none 0 0) (.slice none 0 0)
  f0 : ∀ o, wr.frozen? ⟨R, o, none⟩ = false
  lx : Lc wr X L.n L.s L.ep u1 u2
  fx : ∀ o, wr.frozen? ⟨X, o, none⟩ = false
  n1 : Nn (X + 1) wr u1 L.sts
  n2 : Nn (X + 1) wr u2 L.mks
  k : Kp w wr
  hX : X < wr.heap.size
  hR : R < X
  hw : w.heap.size ≤ R
theorem NwL9.kept {w : World} {R X : Nat} {L : LB} {u1 u2 : Value} {wr w' : World} (h : NwL9 w R X L u1 u2 wr) (k : Kp wr w') : NwL9 w R X L u1 u2 w' :=
  ⟨h.l0.kept k, fun o => (Below.frozen (p := ⟨R, o, none⟩) k (Nat.lt_trans h.hR h.hX)).trans (h.f0 o), h.lx.kept k, fun o => (Below.frozen (p := ⟨X, o, none⟩) k h.hX).trans (h.fx o), h.n1.kept k, h.n2.kept k, h.k.trans k, Nat.lt_of_lt_of_le h.hX k.size, h.hR, h.hw⟩
theorem Nn.mono {b c : Nat} {w : World} {v : Value} {l : List Int} (h : Nn b w v l) (hc : c ≤ b) : Nn c w v l := by
  obtain ⟨a, g, off, cap, h1, h2, h3⟩ := h
  exact ⟨a, g, off, cap, h1, h2, fun h => Nat.le_trans hc (h3 h)⟩
/-- another label is stored in its place. -/
theorem NwL9.put {w : World} {R X : Nat} {L L2 : LB} {u1 u2 v1 v2 : Value} {wr : World} (h : NwL9 w R X L u1 u2 wr) (m1 : Nn (X + 1) wr v1 L2.sts) (m2 : Nn (X + 1) wr v2 L2.mks) : NwL9 w R X L2 v1 v2 (over wr X L2.n L2.s L2.ep v1 v2) := by
  have t := (Trd.refl X wr).over L2.n L2.s L2.ep v1 v2
  have hz := t.size
  have hX := h.hX
  have hR := h.hR
  have fz : ∀ b o, (over wr X L2.n L2.s L2.ep v1 v2).frozen? ⟨b, o, none⟩ = wr.frozen? ⟨b, o, none⟩ := fun b o => by
    show World.frozen? (World.setCell (World.setCell (World.setCell (World.setCell (World.setCell wr _ _) _ _) _ _) _ _) _ _) _ = _
    rw [World.frozen?_setCell, World.frozen?_setCell, World.frozen?_setCell, World.frozen?_setCell, World.frozen?_setCell]
  exact ⟨t.lc (by omega) h.l0, fun o => (fz R o).trans (h.f0 o), h.lx.over, fun o => (fz X o).trans (h.fx o), m1.trd t (by omega), m2.trd t (by omega), t.kp w h.k (by have := h.hw; omega), by omega, h.hR, h.hw⟩
set_option maxRecDepth 100000 in
set_option maxHeartbeats 4000000 in
theorem newestN_any (v : Value) (l : List ByteArray) (w : World) (h : StrsIn w v l) (hs : ∀ i, i < l.length → (l.getD i noS).size ≤ 9223372036854775807) : Calls Tryz.prog 66 #[v] w fun e w' => ∃ u1 u2, e = .returned (.tuple #[lV (nwL l l.length).n (nwL l l.length).s (nwL l l.length).ep u1 u2, .bool (nwF l l.length)]) ∧ Nn w.heap.size w' u1 (nwL l l.length).sts ∧ Nn w.heap.size w' u2 (nwL l l.length).mks ∧ Kp w w' := by
  have hsh : ∃ a b off cap, v = .slice a l.length cap ∧ l.length ≤ cap ∧ cap ≤ 9223372036854775807 ∧ (0 < l.length → a = some ⟨b, off, none⟩) ∧ ∀ i, i < l.length → w.cell? ⟨b, off + i, none⟩ = some (.string (l.getD i noS)) := by
    cases h with
    | empty a cap h => unfold maxLen at h; exact ⟨a, 0, 0, cap, rfl, by simp, by omega, fun h => absurd h (by simp), fun i hi => absurd hi (by simp)⟩
    | some b off cap l h0 h1 h2 hc => unfold maxLen at h2; exact ⟨_, b, off, cap, rfl, h1, by omega, fun _ => rfl, hc⟩
  obtain ⟨a, b, off, cap, rfl, hle, hmx, hsome, hc⟩ := hsh
  obtain ⟨N, hN⟩ : ∃ N, N = l.length := ⟨_, rfl⟩
  rw [← hN] at hle hsome hc hs ⊢
  have HC := hid3 hc
  have HSz := hid3 hs
  have hNm : N ≤ 9223372036854775807 := by omega
  have l0 : NwL9 w w.heap.size (w.heap.size + 1) (nwL l 0) (.slice none 0 0) (.slice none 0 0) ((w.alloc (.cells #[.int .i64 0, .int .i64 0, .int .i64 0, .slice none 0 0, .slice none 0 0] 63)).alloc (.cells #[.int .i64 0, .int .i64 0, .int .i64 0, .slice none 0 0, .slice none 0 0] 63)) := by
    have q1 := (Lc.new w 0 0 0 (.slice none 0 0) (.slice none 0 0) 63).kept ((Kp.refl _).alloc (.cells #[.int .i64 0, .int .i64 0, .int .i64 0, .slice none 0 0, .slice none 0 0] 63))
    have q2 := Lc.new (w.alloc (.cells #[.int .i64 0, .int .i64 0, .int .i64 0, .slice none 0 0, .slice none 0 0] 63)) 0 0 0 (.slice none 0 0) (.slice none 0 0) 63
    rw [asz] at q2
    refine ⟨q1, fun o => ?_, q2, fun o => ?_, Nn.nil _ _, Nn.nil _ _, ((Kp.refl w).alloc _).alloc _, by simp, by omega, Nat.le_refl _⟩
    · exact (Below.frozen (p := ⟨w.heap.size, o, none⟩) ((Kp.refl _).alloc _) (by simp)).trans (by simp)
    · have : (w.alloc (.cells #[.int .i64 0, .int .i64 0, .int .i64 0, .slice none 0 0, .slice none 0 0] 63)).heap.size = w.heap.size + 1 := by simp
      rw [← this]; simp
  have H0 := hid3 l0
  clear hc hs hN h l0
  go_enter Tryz.func66, Tryz.ntmps66
  go_wp2
  go_loopw [5, 13] (fun f i wr => ∃ (k : Nat) (F : Bool) (u1 u2 : Value), k ≤ N ∧ i = .int .i64 k ∧ f = .bool F ∧ Hid (F = nwF l k ∧ NwL9 w w.heap.size (w.heap.size + 1) (nwL l k) u1 u2 wr)) (fun _ i _ => N - (intOf i).toNat)
  case atStart => exact ⟨0, false, _, _, Nat.zero_le _, rfl, rfl, rfl, H0.out⟩
  case round =>
    clear H0
    obtain ⟨k, F, u1, u2, hk, rfl, rfl, HK⟩ := hrel
    have hn1 := HK.out.2.n1.nl.shape
    have hn2 := HK.out.2.n2.nl.shape
    obtain ⟨x1, y1, z1, rfl⟩ := hn1
    obtain ⟨x2, y2, z2, rfl⟩ := hn2
    by_cases hlt : k < N
    · obtain rfl := hsome (by omega)
      have c0 := HK.out.2.k.held (HC.out k hlt)
      have hsz := HSz.out k hlt
      have hYes := @nw_yes l k
      have hNo := @nw_no l k
      have hG := get_new (l.getD k noS) hsz wr
      have hEp := @gtL_ep (l.getD k noS)
      have hNone := nw_none l k
      obtain ⟨y, ey⟩ : ∃ y, y = l.getD k noS := ⟨_, rfl⟩
      rw [← ey] at c0 hsz hYes hNo hG hEp
      obtain ⟨GE, eGE⟩ : ∃ x, x = gtE y := ⟨_, rfl⟩
      rw [← eGE] at hYes hNo hG hEp
      obtain ⟨G, eG⟩ : ∃ x, x = gtL y := ⟨_, rfl⟩
      rw [← eG] at hYes hNo hG hEp
      obtain ⟨T, eT⟩ : ∃ x, x = nwL l k := ⟨_, rfl⟩
      rw [← eT] at hYes hNo hNone HK
      have HYes := hid3 hYes
      have HNo := hid3 hNo
      have HEp := hid3 hEp
      have HNone := hid3 hNone
      clear ey eGE eG eT hYes hNo hEp hNone
      obtain ⟨gn, gs, ge, gst, gmk⟩ := G
      obtain ⟨tn, ts, te, tst, tmk⟩ := T
      simp only at hG
      unfold lV at hG
      go_wp2_with fail
      refine hG.mono ?_; rintro e w2 ⟨v1, v2, rfl, m1, m2, k2⟩
      obtain ⟨f1, f2, f3, rfl⟩ := m1.nl.shape
      obtain ⟨f4, f5, f6, rfl⟩ := m2.nl.shape
      have l2 := Lc.new w2 gn gs ge (.slice f1 f2 f3) (.slice f4 f5 f6) 63
      have k3 : Kp w2 (w2.alloc (.cells #[.int .i64 gn, .int .i64 gs, .int .i64 ge, .slice f1 f2 f3, .slice f4 f5 f6] 63)) := (Kp.refl w2).alloc _
      have HX := HK.out.2.hX
      have HM := hid3 (And.intro (m1.mono (c := w.heap.size + 1 + 1) (by omega)) (m2.mono (c := w.heap.size + 1 + 1) (by omega)))
      obtain ⟨w3, hw3⟩ : ∃ V, V = w2.alloc (.cells #[.int .i64 gn, .int .i64 gs, .int .i64 ge, .slice f1 f2 f3, .slice f4 f5 f6] 63) := ⟨_, rfl⟩
      have HW3 := hid3 hw3
      have HR3 := hid3 (HK.out.2.kept (k2.trans k3))
      have HF := hid3 HK.out.1
      have HR2 := hid3 (HK.out.2.kept k2)
      rw [← hw3] at l2 k3 HR3
      have hlX : w.heap.size + 1 < w2.heap.size := HR2.out.hX
      obtain ⟨e0, e1, e2, e3, e4⟩ := HR2.out.lx
      have zx := HR2.out.fx
      clear hG m1 m2 k2 k3 hw3 c0 HX HK hsz
      simp only at e0 e1 e2 e3 e4
      by_cases q1 : GE = 0
      · have b1 : (GE == 0) = true := beq_iff_eq.2 q1
        by_cases q2 : te < ge
        · obtain ⟨r1, r2⟩ := HYes.out ⟨q1, q2⟩
          have HOV := hid3 ((HR2.out.put (L2 := ⟨gn, gs, ge, gst, gmk⟩) HM.out.1 HM.out.2).kept ((Kp.refl _).alloc (.cells #[.int .i64 gn, .int .i64 gs, .int .i64 ge, .slice f1 f2 f3, .slice f4 f5 f6] 63)))
          have HFin : Hid (true = nwF l (k + 1) ∧ NwL9 w w.heap.size (w.heap.size + 1) (nwL l (k + 1)) (.slice f1 f2 f3) (.slice f4 f5 f6) ((over w2 (w.heap.size + 1) gn gs ge (.slice f1 f2 f3) (.slice f4 f5 f6)).alloc (.cells #[.int .i64 gn, .int .i64 gs, .int .i64 ge, .slice f1 f2 f3, .slice f4 f5 f6] 63))) := by rw [r1, r2]; exact ⟨rfl, HOV.out⟩
          clear q1 r1 r2
          have hgt : decide (te < ge) = true := decide_eq_true q2
          go_wp2
          go_roundw
          case rel => exact ⟨k + 1, _, _, _, by omega, by go_num, rfl, HFin⟩
          case measure => simp [intOf]; omega
        · obtain ⟨r1, r2⟩ := HNo.out (fun h => q2 h.2)
          have HFin : Hid (F = nwF l (k + 1) ∧ NwL9 w w.heap.size (w.heap.size + 1) (nwL l (k + 1)) (.slice x1 y1 z1) (.slice x2 y2 z2) w3) := by rw [r1, r2]; exact ⟨HF.out, HR3.out⟩
          rw [HW3.out] at HFin
          clear r1 r2
          have hgt : decide (te < ge) = false := decide_eq_false q2
          go_wp2
          go_roundw
          case rel => exact ⟨k + 1, _, _, _, by omega, by go_num, rfl, HFin⟩
          case measure => simp [intOf]; omega
      · have b1 : (GE == 0) = false := beq_eq_false_iff_ne.2 q1
        obtain ⟨r1, r2⟩ := HNo.out (fun h => q1 h.1)
        have HFin : Hid (F = nwF l (k + 1) ∧ NwL9 w w.heap.size (w.heap.size + 1) (nwL l (k + 1)) (.slice x1 y1 z1) (.slice x2 y2 z2) w3) := by rw [r1, r2]; exact ⟨HF.out, HR3.out⟩
        rw [HW3.out] at HFin
        clear q1 r1 r2
        go_wp2
        go_roundw
        case rel => exact ⟨k + 1, _, _, _, by omega, by go_num, rfl, HFin⟩
        case measure => simp [intOf]; omega
    · obtain rfl : N = k := by omega
      have HR := hid3 HK.out.2
      have HF := hid3 HK.out.1
      obtain ⟨T, eT⟩ : ∃ x, x = nwL l N := ⟨_, rfl⟩
      rw [← eT] at HR
      obtain ⟨tn, ts, te, tst, tmk⟩ := T
      have HTT := hid3 eT
      obtain ⟨e0, e1, e2, e3, e4⟩ := HR.out.lx
      obtain ⟨c0, c1, c2, c3, c4⟩ := HR.out.l0
      have z0 := HR.out.f0
      simp only at e0 e1 e2 e3 e4
      clear HK eT
      go_wp2
      have t2 := (Trd.refl w.heap.size wr).over tn ts te (.slice x1 y1 z1) (.slice x2 y2 z2)
      refine bodyPost_ret (results_lb2 rfl _ _ w.heap.size rfl rfl (HR.out.l0.over (n2 := tn) (s2 := ts) (ep2 := te) (sv2 := .slice x1 y1 z1) (mv2 := .slice x2 y2 z2))) rfl ?_
      rw [← HTT.out]
      exact ⟨_, _, by rw [← HF.out]; rfl, (HR.out.n1.trd t2 (by omega)).mono (by omega), (HR.out.n2.trd t2 (by omega)).mono (by omega), t2.kp w HR.out.k (Nat.le_refl _)⟩
theorem newest_any (v : Value) (l : List ByteArray) (w : World) (h : StrsIn w v l) (hs : ∀ i, i < l.length → (l.getD i noS).size ≤ 9223372036854775807) : Calls Tryz.prog 66 #[v] w fun e w' => ∃ u1 u2, e = .returned (.tuple #[lV (nwL l l.length).n (nwL l l.length).s (nwL l l.length).ep u1 u2, .bool (nwF l l.length)]) ∧ Nl w' u1 (nwL l l.length).sts ∧ Nl w' u2 (nwL l l.length).mks ∧ Kp w w' :=
  (newestN_any v l w h hs).mono fun e w' ⟨u1, u2, h1, h2, h3, h4⟩ => ⟨u1, u2, h1, h2.nl, h3.nl, h4⟩
set_option maxRecDepth 100000 in
set_option maxHeartbeats 4000000 in
theorem rnewestN_any (v : Value) (l : List ByteArray) (w : World) (h : StrsIn w v l) (hs : ∀ i, i < l.length → (l.getD i noS).size ≤ 9223372036854775807) : Calls Tryz.prog 70 #[v] w fun e w' => ∃ u1 u2, e = .returned (.tuple #[lV (nwL l l.length).n (nwL l l.length).s (nwL l l.length).ep u1 u2, .bool (nwF l l.length)]) ∧ Nn w.heap.size w' u1 (nwL l l.length).sts ∧ Nn w.heap.size w' u2 (nwL l l.length).mks ∧ Kp w w' := by
  have hsh : ∃ a b off cap, v = .slice a l.length cap ∧ l.length ≤ cap ∧ cap ≤ 9223372036854775807 ∧ (0 < l.length → a = some ⟨b, off, none⟩) ∧ ∀ i, i < l.length → w.cell? ⟨b, off + i, none⟩ = some (.string (l.getD i noS)) := by
    cases h with
    | empty a cap h => unfold maxLen at h; exact ⟨a, 0, 0, cap, rfl, by simp, by omega, fun h => absurd h (by simp), fun i hi => absurd hi (by simp)⟩
    | some b off cap l h0 h1 h2 hc => unfold maxLen at h2; exact ⟨_, b, off, cap, rfl, h1, by omega, fun _ => rfl, hc⟩
  obtain ⟨a, b, off, cap, rfl, hle, hmx, hsome, hc⟩ := hsh
  obtain ⟨N, hN⟩ : ∃ N, N = l.length := ⟨_, rfl⟩
  rw [← hN] at hle hsome hc hs ⊢
  have HC := hid3 hc
  have HSz := hid3 hs
  have hNm : N ≤ 9223372036854775807 := by omega
  have l0 : NwL9 w w.heap.size (w.heap.size + 1) (nwL l 0) (.slice none 0 0) (.slice none 0 0) ((w.alloc (.cells #[.int .i64 0, .int .i64 0, .int .i64 0, .slice none 0 0, .slice none 0 0] 66)).alloc (.cells #[.int .i64 0, .int .i64 0, .int .i64 0, .slice none 0 0, .slice none 0 0] 66)) := by
    have q1 := (Lc.new w 0 0 0 (.slice none 0 0) (.slice none 0 0) 66).kept ((Kp.refl _).alloc (.cells #[.int .i64 0, .int .i64 0, .int .i64 0, .slice none 0 0, .slice none 0 0] 66))
    have q2 := Lc.new (w.alloc (.cells #[.int .i64 0, .int .i64 0, .int .i64 0, .slice none 0 0, .slice none 0 0] 66)) 0 0 0 (.slice none 0 0) (.slice none 0 0) 66
    rw [asz] at q2
    refine ⟨q1, fun o => ?_, q2, fun o => ?_, Nn.nil _ _, Nn.nil _ _, ((Kp.refl w).alloc _).alloc _, by simp, by omega, Nat.le_refl _⟩
    · exact (Below.frozen (p := ⟨w.heap.size, o, none⟩) ((Kp.refl _).alloc _) (by simp)).trans (by simp)
    · have : (w.alloc (.cells #[.int .i64 0, .int .i64 0, .int .i64 0, .slice none 0 0, .slice none 0 0] 66)).heap.size = w.heap.size + 1 := by simp
      rw [← this]; simp
  have H0 := hid3 l0
  clear hc hs hN h l0
  go_enter Tryz.func70, Tryz.ntmps70
  go_wp2
  go_loopw [5, 6] (fun f i wr => ∃ (k : Nat) (F : Bool) (u1 u2 : Value), k ≤ N ∧ i = .int .i64 k ∧ f = .bool F ∧ Hid (F = nwF l k ∧ NwL9 w w.heap.size (w.heap.size + 1) (nwL l k) u1 u2 wr)) (fun _ i _ => N - (intOf i).toNat)
  case atStart => exact ⟨0, false, _, _, Nat.zero_le _, rfl, rfl, rfl, H0.out⟩
  case round =>
    clear H0
    obtain ⟨k, F, u1, u2, hk, rfl, rfl, HK⟩ := hrel
    have hn1 := HK.out.2.n1.nl.shape
    have hn2 := HK.out.2.n2.nl.shape
    obtain ⟨x1, y1, z1, rfl⟩ := hn1
    obtain ⟨x2, y2, z2, rfl⟩ := hn2
    by_cases hlt : k < N
    · obtain rfl := hsome (by omega)
      have c0 := HK.out.2.k.held (HC.out k hlt)
      have hsz := HSz.out k hlt
      have hYes := @nw_yes l k
      have hNo := @nw_no l k
      have hG := rget_new (l.getD k noS) hsz wr
      have hEp := @gtL_ep (l.getD k noS)
      have hNone := nw_none l k
      obtain ⟨y, ey⟩ : ∃ y, y = l.getD k noS := ⟨_, rfl⟩
      rw [← ey] at c0 hsz hYes hNo hG hEp
      obtain ⟨GE, eGE⟩ : ∃ x, x = gtE y := ⟨_, rfl⟩
      rw [← eGE] at hYes hNo hG hEp
      obtain ⟨G, eG⟩ : ∃ x, x = gtL y := ⟨_, rfl⟩
      rw [← eG] at hYes hNo hG hEp
      obtain ⟨T, eT⟩ : ∃ x, x = nwL l k := ⟨_, rfl⟩
      rw [← eT] at hYes hNo hNone HK
      have HYes := hid3 hYes
      have HNo := hid3 hNo
      have HEp := hid3 hEp
      have HNone := hid3 hNone
      clear ey eGE eG eT hYes hNo hEp hNone
      obtain ⟨gn, gs, ge, gst, gmk⟩ := G
      obtain ⟨tn, ts, te, tst, tmk⟩ := T
      simp only at hG
      unfold lV at hG
      go_wp2_with fail
      refine hG.mono ?_; rintro e w2 ⟨v1, v2, rfl, m1, m2, k2⟩
      obtain ⟨f1, f2, f3, rfl⟩ := m1.nl.shape
      obtain ⟨f4, f5, f6, rfl⟩ := m2.nl.shape
      have l2 := Lc.new w2 gn gs ge (.slice f1 f2 f3) (.slice f4 f5 f6) 66
      have k3 : Kp w2 (w2.alloc (.cells #[.int .i64 gn, .int .i64 gs, .int .i64 ge, .slice f1 f2 f3, .slice f4 f5 f6] 66)) := (Kp.refl w2).alloc _
      have HX := HK.out.2.hX
      have HM := hid3 (And.intro (m1.mono (c := w.heap.size + 1 + 1) (by omega)) (m2.mono (c := w.heap.size + 1 + 1) (by omega)))
      obtain ⟨w3, hw3⟩ : ∃ V, V = w2.alloc (.cells #[.int .i64 gn, .int .i64 gs, .int .i64 ge, .slice f1 f2 f3, .slice f4 f5 f6] 66) := ⟨_, rfl⟩
      have HW3 := hid3 hw3
      have HR3 := hid3 (HK.out.2.kept (k2.trans k3))
      have HF := hid3 HK.out.1
      have HR2 := hid3 (HK.out.2.kept k2)
      rw [← hw3] at l2 k3 HR3
      have hlX : w.heap.size + 1 < w2.heap.size := HR2.out.hX
      obtain ⟨e0, e1, e2, e3, e4⟩ := HR2.out.lx
      have zx := HR2.out.fx
      clear hG m1 m2 k2 k3 hw3 c0 HX HK hsz
      simp only at e0 e1 e2 e3 e4
      by_cases q1 : GE = 0
      · have b1 : (GE == 0) = true := beq_iff_eq.2 q1
        by_cases q2 : te < ge
        · obtain ⟨r1, r2⟩ := HYes.out ⟨q1, q2⟩
          have HOV := hid3 ((HR2.out.put (L2 := ⟨gn, gs, ge, gst, gmk⟩) HM.out.1 HM.out.2).kept ((Kp.refl _).alloc (.cells #[.int .i64 gn, .int .i64 gs, .int .i64 ge, .slice f1 f2 f3, .slice f4 f5 f6] 66)))
          have HFin : Hid (true = nwF l (k + 1) ∧ NwL9 w w.heap.size (w.heap.size + 1) (nwL l (k + 1)) (.slice f1 f2 f3) (.slice f4 f5 f6) ((over w2 (w.heap.size + 1) gn gs ge (.slice f1 f2 f3) (.slice f4 f5 f6)).alloc (.cells #[.int .i64 gn, .int .i64 gs, .int .i64 ge, .slice f1 f2 f3, .slice f4 f5 f6] 66))) := by rw [r1, r2]; exact ⟨rfl, HOV.out⟩
          clear q1 r1 r2
          have hgt : decide (te < ge) = true := decide_eq_true q2
          cases F with
          | true =>
            go_wp2
            go_roundw
            case rel => exact ⟨k + 1, _, _, _, by omega, by go_num, rfl, HFin⟩
            case measure => simp [intOf]; omega
          | false =>
            go_wp2
            go_roundw
            case rel => exact ⟨k + 1, _, _, _, by omega, by go_num, rfl, HFin⟩
            case measure => simp [intOf]; omega
        · obtain ⟨r1, r2⟩ := HNo.out (fun h => q2 h.2)
          have HFin : Hid (F = nwF l (k + 1) ∧ NwL9 w w.heap.size (w.heap.size + 1) (nwL l (k + 1)) (.slice x1 y1 z1) (.slice x2 y2 z2) w3) := by rw [r1, r2]; exact ⟨HF.out, HR3.out⟩
          rw [HW3.out] at HFin
          clear r1 r2
          have hgt : decide (te < ge) = false := decide_eq_false q2
          cases F with
          | true =>
            go_wp2
            go_roundw
            case rel => exact ⟨k + 1, _, _, _, by omega, by go_num, rfl, HFin⟩
            case measure => simp [intOf]; omega
          | false =>
            exfalso
            have hT := HNone.out HF.out.symm
            have h1 := HEp.out q1
            unfold noL at hT
            simp only [LB.mk.injEq] at hT h1
            omega
      · have b1 : (GE == 0) = false := beq_eq_false_iff_ne.2 q1
        obtain ⟨r1, r2⟩ := HNo.out (fun h => q1 h.1)
        have HFin : Hid (F = nwF l (k + 1) ∧ NwL9 w w.heap.size (w.heap.size + 1) (nwL l (k + 1)) (.slice x1 y1 z1) (.slice x2 y2 z2) w3) := by rw [r1, r2]; exact ⟨HF.out, HR3.out⟩
        rw [HW3.out] at HFin
        clear q1 r1 r2
        go_wp2
        go_roundw
        case rel => exact ⟨k + 1, _, _, _, by omega, by go_num, rfl, HFin⟩
        case measure => simp [intOf]; omega
    · obtain rfl : N = k := by omega
      have HR := hid3 HK.out.2
      have HF := hid3 HK.out.1
      obtain ⟨T, eT⟩ : ∃ x, x = nwL l N := ⟨_, rfl⟩
      rw [← eT] at HR
      obtain ⟨tn, ts, te, tst, tmk⟩ := T
      have HTT := hid3 eT
      obtain ⟨e0, e1, e2, e3, e4⟩ := HR.out.lx
      obtain ⟨c0, c1, c2, c3, c4⟩ := HR.out.l0
      have z0 := HR.out.f0
      simp only at e0 e1 e2 e3 e4
      clear HK eT
      go_wp2
      have t2 := (Trd.refl w.heap.size wr).over tn ts te (.slice x1 y1 z1) (.slice x2 y2 z2)
      refine bodyPost_ret (results_rl2 rfl _ _ w.heap.size rfl rfl (HR.out.l0.over (n2 := tn) (s2 := ts) (ep2 := te) (sv2 := .slice x1 y1 z1) (mv2 := .slice x2 y2 z2))) rfl ?_
      rw [← HTT.out]
      exact ⟨_, _, by rw [← HF.out]; rfl, (HR.out.n1.trd t2 (by omega)).mono (by omega), (HR.out.n2.trd t2 (by omega)).mono (by omega), t2.kp w HR.out.k (Nat.le_refl _)⟩

theorem rnewest_any (v : Value) (l : List ByteArray) (w : World) (h : StrsIn w v l) (hs : ∀ i, i < l.length → (l.getD i noS).size ≤ 9223372036854775807) : Calls Tryz.prog 70 #[v] w fun e w' => ∃ u1 u2, e = .returned (.tuple #[lV (nwL l l.length).n (nwL l l.length).s (nwL l l.length).ep u1 u2, .bool (nwF l l.length)]) ∧ Nl w' u1 (nwL l l.length).sts ∧ Nl w' u2 (nwL l l.length).mks ∧ Kp w w' :=
  (rnewestN_any v l w h hs).mono fun e w' ⟨u1, u2, h1, h2, h3, h4⟩ => ⟨u1, u2, h1, h2.nl, h3.nl, h4⟩
end Go.Proofs.YtinpkfdmellleaaGreat

namespace Go.Proofs.YtinpkfdmellleaaGreat
open Go.RowKit Plain
set_option linter.unusedVariables false

def Ts (w : World) (base : Nat) (v : Value) (l : List ByteArray) : Prop := w.ownsRow base 9 1 v l.length (l.map Value.string)
theorem Ts.kept {w w' : World} {base : Nat} {v : Value} {l : List ByteArray} (h : Ts w base v l) (k : Kp w w') : Ts w' base v l := k.own h
theorem wpList_app_str {w : World} {ops : Array Oper} {rest : List Oper} {o : Oper} {a : Act} {Q : Exit → Act → World → Prop} (hgd : o.guard = none) (s x : Operand)
    (ho : o.op = .call { callee := .builtin .append, args := #[s, x], argTypes := #[70, 70] })
    (base : Nat) (v : Value) (l : List ByteArray) (hs : a.eval s = v) (hown : Ts w base v l) (p : ByteArray) (k : Nat) (hx : a.eval x = .slice (some ⟨k, 0, none⟩) 1 1) (hc : w.cell? ⟨k, 0, none⟩ = some (.string p))
    (hlen : l.length ≤ 1000) (hbase : base ≤ w.heap.size)
    (h : ∀ v' w', Ts w' base v' (l ++ [p]) → w.grownBy w' v.ownBlock → wpList Tryz.prog ops Q rest (a.put o.dst v') w') : wpList Tryz.prog ops Q (o :: rest) a w := by
  obtain ⟨i0, hi, hz0, hz1, hz2⟩ := info_parts info_str
  refine wpList_append_own_at w hgd s x 70 ho base 9 i0 (.string ByteArray.empty) 1 16 Tryz.underlying70 hi hz0 hz1 hz2 rfl (by decide) v l.length _ hs hown ⟨k, 0, none⟩ 1 1 [.string p] hx rfl ?_ (by simp [Value.oneCell']) (by unfold maxLen; omega) (by omega) hbase (fun v' w' h1 h2 _ _ => h v' w' ?_ h2)
  · intro j u hj
    match j, hj with
    | 0, hj => simp at hj; subst hj; simpa [Addr.add] using hc
  · unfold Ts
    rw [List.length_append, List.map_append]
    exact h1

end Go.Proofs.YtinpkfdmellleaaGreat
