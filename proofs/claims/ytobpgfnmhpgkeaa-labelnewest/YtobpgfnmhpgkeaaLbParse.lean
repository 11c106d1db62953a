/-
  Contracts of strings.HasPrefix, of label's parse and Get. No condition but that parse's geometry is good and its text a sector.
-/
import Derived.Test.YtobpgfnmhpgkeaaLbPut
import Derived.Test.YtobpgfnmhpgkeaaLbNew
import Derived.Deep.RegionWith
import Derived.Deep.RegionHeld3
import Derived.Deep.DeepCutAuto
import Derived.Laws.Strings
namespace Go.Proofs.Ytobpgfnmhpgkeaa
open Go.RowKit Plain
set_option linter.unusedVariables false

theorem lst_eq (a b : ByteArray) : (a.toList == b.toList) = decide (a = b) := by
  rw [ByteArray.toList_eq, ByteArray.toList_eq]
  by_cases h : a = b
  · rw [h]; simp
  · have h2 : a.data.toList ≠ b.data.toList := fun e => h (by
      cases a; cases b
      congr 1
      exact Array.toList_inj.1 e)
    rw [decide_eq_false h]
    exact beq_eq_false_iff_ne.2 h2
theorem pfx_eq (a : ByteArray) : (a.toList == [84, 82, 85, 78]) = decide (a = pfx) := by
  rw [← lst_eq, ByteArray.toList_eq pfx]; rfl
set_option maxRecDepth 100000 in
theorem prefix_any (s : ByteArray) (hs : s.size = 64) (w : World) : Calls Try.prog 34 #[.string s, .string ⟨#[84, 82, 85, 78]⟩] w fun e w' => e = .returned (.bool (decide (s.extract 0 4 = pfx))) ∧ w' = w := by
  have h : Calls Try.prog 43 #[.string s, .string ⟨#[84, 82, 85, 78]⟩] w fun e w' => e = .returned (.bool (decide (s.extract 0 4 = pfx))) ∧ w' = w := by
    have hz : (⟨#[84, 82, 85, 78]⟩ : ByteArray).size = 4 := rfl
    have HP : Hid (decide (s.extract 0 4 = pfx) = ((s.extract 0 4).toList == [84, 82, 85, 78])) := (pfx_eq _).symm
    go_enter Try.func43, Try.ntmps43
    go_wp2
    go_ret
    exact ⟨by rw [HP.out]; rfl, rfl⟩
  go_enter Try.func34, Try.ntmps34
  go_wp2_with fail
  refine h.mono ?_; rintro e w1 ⟨rfl, rfl⟩
  go_wp2
  go_ret
  exact ⟨rfl, rfl⟩

/-- the lists behind the first k members. -/
def pF (g : Nat → Int) (k i : Nat) : Int := if i < k then g i else 0
theorem pF_step (g : Nat → Int) (k i : Nat) : (if i = k then g k else pF g k i) = pF g (k + 1) i := by
  unfold pF
  by_cases h : i = k
  · rw [if_pos h, if_pos (by omega), h]
  · rw [if_neg h]
    by_cases h1 : i < k
    · rw [if_pos h1, if_pos (by omega)]
    · rw [if_neg h1, if_neg (by omega)]
theorem wrap_byte (x : Nat) (h : x < 256) : wrap64 (x : Int) = (x : Int) := by simp only [wrap64]; omega
theorem byte_parts (x : Nat) (h : x < 256) : (x : Int).tdiv 64 = ((x / 64 : Nat) : Int) ∧ (x : Int).tmod 64 = ((x % 64 : Nat) : Int) ∧ IntKind.i64.wrap ((x / 64 : Nat) : Int) = ((x / 64 : Nat) : Int) := by
  refine ⟨?_, ?_, ?_⟩
  · rw [Int.tdiv_eq_ediv_of_nonneg (by omega)]; omega
  · rw [Int.tmod_eq_emod_of_nonneg (by omega)]; omega
  · rw [IntKind.wrap_i64]; omega
set_option maxRecDepth 100000 in
set_option maxHeartbeats 2000000 in
theorem parse_any (N : Nat) (S : Int) (t : ByteArray) (ht : t.size = 64) (hN : N ≤ 32) (w : World) : Calls Try.prog 36 #[gV N S, .string t] w fun e w' => ∃ sv mv, e = .returned (lV N S (epN t) sv mv) ∧ Fe 67 w' w.heap.size sv N (fun i => ((bf t (14 + i) / 64 : Nat) : Int)) ∧ Fe 3 w' w.heap.size mv N (fun i => ((bf t (14 + i) % 64 : Nat) : Int)) ∧ Kp w w' := by
  have hB := fun w' => blank_any N S w' hN
  have hs8 : (t.extract 4 12).size = 8 := by rw [extract_size _ _ _ (by omega)]
  have hL := fun w' => load8_any (t.extract 4 12) (by omega) w'
  have hnm : nmN (bf (t.extract 4 12)) (t.extract 4 12).size = nmN (fun i => bf t (4 + i)) 8 := by
    rw [hs8]
    exact nmN_congr 8 (fun i hi => bAt_extract t 4 12 i (by omega) (by omega))
  rw [hnm] at hL
  have HE : Hid (epN t = IntKind.i64.wrap ((nmN (fun i => bf t (4 + i)) 8 : Nat) : Int)) := rfl
  obtain ⟨EP, hEP⟩ : ∃ EP, EP = epN t := ⟨_, rfl⟩
  rw [← hEP] at HE ⊢
  have hq := nmN_lt (fun i => bf t (4 + i)) (fun i => bf_lt t _) 8
  obtain ⟨q, eq⟩ : ∃ q, q = nmN (fun i => bf t (4 + i)) 8 := ⟨_, rfl⟩
  rw [← eq] at hL HE hq
  rw [show (256 : Nat) ^ 8 = 18446744073709551616 by decide +kernel] at hq
  clear hnm hEP eq
  have hwe : wrap64 (q : Int) = EP := by rw [HE.out, IntKind.wrap_i64]; simp only [wrap64]
  unfold gV at hB ⊢
  go_enter Try.func36, Try.ntmps36
  go_wp2_with fail
  refine (hB _).mono ?_; rintro e w1 ⟨b1, b2, rfl, hne, f1, f2, k1⟩
  have l1 : Lc w1 (w.heap.size + 1) 0 0 0 (.slice none 0 0) (.slice none 0 0) := by
    have := (Lc.new (w.alloc (.cells #[.int .i64 (N : Int), .int .i64 S] 26)) 0 0 0 (.slice none 0 0) (.slice none 0 0) 29)
    simp only [asz] at this
    exact this.kept k1
  have z1 : ∀ o, w1.frozen? ⟨w.heap.size + 1, o, none⟩ = false := fun o => (Below.frozen (p := ⟨w.heap.size + 1, o, none⟩) k1 (by simp)).trans (by simp)
  have K1 : Hid (Kp w w1) := (((Kp.refl w).alloc _).alloc _).trans k1
  unfold lV
  clear hB k1
  go_wp2_with fail
  refine (hL _).mono ?_; rintro e w2 ⟨rfl, rfl⟩
  clear hL
  have hb1 := World.ownsRow.lt f1 b1 rfl
  have hb2 := World.ownsRow.lt f2 b2 rfl
  have hsz : (((w.alloc (.cells #[.int .i64 (N : Int), .int .i64 S] 26)).alloc (.cells #[.int .i64 0, .int .i64 0, .int .i64 0, .slice none 0 0, .slice none 0 0] 29)).heap.size) = w.heap.size + 1 + 1 := by simp
  rw [hsz] at hb1 hb2 f1 f2
  have hl2 := Lc.new w1 N S EP (.slice (some ⟨b1, 0, none⟩) N N) (.slice (some ⟨b2, 0, none⟩) N N) 29
  have Kw : Kp w1 (w1.alloc (.cells #[.int .i64 (N : Int), .int .i64 S, .int .i64 EP, .slice (some ⟨b1, 0, none⟩) N N, .slice (some ⟨b2, 0, none⟩) N N] 29)) := (Kp.refl w1).alloc _
  obtain ⟨W, hW⟩ : ∃ W, W = w1.alloc (.cells #[.int .i64 (N : Int), .int .i64 S, .int .i64 EP, .slice (some ⟨b1, 0, none⟩) N N, .slice (some ⟨b2, 0, none⟩) N N] 29) := ⟨_, rfl⟩
  have HW : Hid (W = w1.alloc (.cells #[.int .i64 (N : Int), .int .i64 S, .int .i64 EP, .slice (some ⟨b1, 0, none⟩) N N, .slice (some ⟨b2, 0, none⟩) N N] 29)) := hW
  rw [← hW] at hl2 Kw
  have F1 : Hid (Fe 67 W (w.heap.size + 1 + 1) (.slice (some ⟨b1, 0, none⟩) N N) N (pF (fun i => ((bf t (14 + i) / 64 : Nat) : Int)) 0)) := (f1.kept Kw).congr (fun j _ => by unfold pF; rw [if_neg (by omega)])
  have F2 : Hid (Fe 3 W (w.heap.size + 1 + 1) (.slice (some ⟨b2, 0, none⟩) N N) N (pF (fun i => ((bf t (14 + i) % 64 : Nat) : Int)) 0)) := (f2.kept Kw).congr (fun j _ => by unfold pF; rw [if_neg (by omega)])
  have HL : Hid (Lc W w1.heap.size N S EP (.slice (some ⟨b1, 0, none⟩) N N) (.slice (some ⟨b2, 0, none⟩) N N)) := hl2
  have HL0 : Hid (Lc W (w.heap.size + 1) 0 0 0 (.slice none 0 0) (.slice none 0 0)) := l1.kept Kw
  have hs1 : w.heap.size + 1 < w1.heap.size := World.block_lt_of_cell? _ _ l1.c0
  have HZ0 : Hid (∀ o, W.frozen? ⟨w.heap.size + 1, o, none⟩ = false) := fun o => (Below.frozen (p := ⟨w.heap.size + 1, o, none⟩) Kw hs1).trans (z1 o)
  have KW : Hid (Kp w W) := K1.out.trans Kw
  obtain ⟨hb1a, hb1b⟩ := hb1
  obtain ⟨hb2a, hb2b⟩ := hb2
  obtain ⟨B, hB⟩ : ∃ B, B = w1.heap.size := ⟨_, rfl⟩
  rw [← hB] at HL hs1 hb1b hb2b
  have hB2 := hB.symm
  clear hW l1 z1 f1 f2 hl2 Kw hsz K1 hB
  go_wp2
  rw [← HW.out]
  clear HW hwe hB2
  go_loopw [18] (fun i wr => ∃ k : Nat, k ≤ N ∧ i = .int .i64 k ∧ Hid (Fe 67 wr (w.heap.size + 1 + 1) (.slice (some ⟨b1, 0, none⟩) N N) N (pF (fun i => ((bf t (14 + i) / 64 : Nat) : Int)) k)) ∧ Hid (Fe 3 wr (w.heap.size + 1 + 1) (.slice (some ⟨b2, 0, none⟩) N N) N (pF (fun i => ((bf t (14 + i) % 64 : Nat) : Int)) k)) ∧ Hid (Lc wr B N S EP (.slice (some ⟨b1, 0, none⟩) N N) (.slice (some ⟨b2, 0, none⟩) N N)) ∧ Hid (Lc wr (w.heap.size + 1) 0 0 0 (.slice none 0 0) (.slice none 0 0)) ∧ Hid (∀ o, wr.frozen? ⟨w.heap.size + 1, o, none⟩ = false) ∧ Hid (Kp w wr)) (fun i _ => N - (intOf i).toNat)
  case atStart => exact ⟨0, Nat.zero_le _, rfl, F1, F2, HL, HL0, HZ0, KW⟩
  case round =>
    clear F1 F2 HL HL0 HZ0 KW
    obtain ⟨k, hk, rfl, F1, F2, HL, HL0, HZ0, KW⟩ := hrel
    obtain ⟨c0, c1, c2, c3, c4⟩ := HL.out
    by_cases hlt : k < N
    · have htk : 14 + k < t.size := by omega
      have HB : Hid ((t[14 + k]'htk).toNat = bf t (14 + k)) := bf_at t (14 + k) htk
      have hx := bf_lt t (14 + k)
      obtain ⟨x, ex⟩ : ∃ x, x = bf t (14 + k) := ⟨_, rfl⟩
      rw [← ex] at HB hx
      have HX : Hid (x = bf t (14 + k)) := ex
      obtain ⟨u1, g1⟩ : ∃ u1 : Int, wr.cell? ⟨b1, k, none⟩ = some (.int .i64 u1) := ⟨_, F1.out.at k hlt⟩
      obtain ⟨u2, g2⟩ : ∃ u2 : Int, wr.cell? ⟨b2, k, none⟩ = some (.int .i64 u2) := ⟨_, F2.out.at k hlt⟩
      have y1 := F1.out.z k
      have y2 := F2.out.z k
      clear ex
      have hwx : wrap64 (((t[14 + k]'htk).toNat : Nat) : Int) = ((x : Nat) : Int) := by rw [HB.out]; exact wrap_byte x hx
      obtain ⟨d1, d2, d3⟩ := byte_parts x hx
      have hnb1 : b1 ≠ B := by omega
      have hnb2 : b2 ≠ B := by omega
      have hnb3 : B ≠ b1 := by omega
      have hnb4 : B ≠ b2 := by omega
      have hnb5 : b2 ≠ b1 := fun e => hne e.symm
      go_wp2_with fail
      rw [hwx]
      obtain ⟨y, hy⟩ : ∃ y, y = x / 64 := ⟨_, rfl⟩
      obtain ⟨z, hz⟩ : ∃ z, z = x % 64 := ⟨_, rfl⟩
      rw [← hy] at d1 d3
      rw [← hz] at d2
      have HY : Hid (y = x / 64) := hy
      have HZ : Hid (z = x % 64) := hz
      have G1 : Hid (∀ i, (if i = k then ((y : Nat) : Int) else pF (fun i => ((bf t (14 + i) / 64 : Nat) : Int)) k i) = pF (fun i => ((bf t (14 + i) / 64 : Nat) : Int)) (k + 1) i) := fun i => by rw [← pF_step, HY.out, HX.out]
      have G2 : Hid (∀ i, (if i = k then ((z : Nat) : Int) else pF (fun i => ((bf t (14 + i) % 64 : Nat) : Int)) k i) = pF (fun i => ((bf t (14 + i) % 64 : Nat) : Int)) (k + 1) i) := fun i => by rw [← pF_step, HZ.out, HX.out]
      clear hy hz hwx
      have hS1 : ∀ V : World, (V.cell? ⟨B, 3, none⟩ = some (.slice (some ⟨b1, 0, none⟩) N N) ∧ V.cell? ⟨B, 4, none⟩ = some (.slice (some ⟨b2, 0, none⟩) N N)) → (V.drew.cell? ⟨B, 3, none⟩ = some (.slice (some ⟨b1, 0, none⟩) N N) ∧ V.drew.cell? ⟨B, 4, none⟩ = some (.slice (some ⟨b2, 0, none⟩) N N)) := fun V h => h
      have hS2 : ∀ (V : World) (b o : Nat) (v : Value), b ≠ B → (V.cell? ⟨B, 3, none⟩ = some (.slice (some ⟨b1, 0, none⟩) N N) ∧ V.cell? ⟨B, 4, none⟩ = some (.slice (some ⟨b2, 0, none⟩) N N)) → ((V.setCell ⟨b, o, none⟩ v).cell? ⟨B, 3, none⟩ = some (.slice (some ⟨b1, 0, none⟩) N N) ∧ (V.setCell ⟨b, o, none⟩ v).cell? ⟨B, 4, none⟩ = some (.slice (some ⟨b2, 0, none⟩) N N)) := fun V b o v hb h => ⟨(World.cell?_setCell_other _ _ _ _ (by intro e; exact hb (congrArg Addr.block e))).trans h.1, (World.cell?_setCell_other _ _ _ _ (by intro e; exact hb (congrArg Addr.block e))).trans h.2⟩
      go_region_held3 (fun V => V.cell? ⟨B, 3, none⟩ = some (.slice (some ⟨b1, 0, none⟩) N N) ∧ V.cell? ⟨B, 4, none⟩ = some (.slice (some ⟨b2, 0, none⟩) N N)) (first | go_keep) (fail)
      all_goals go_wp2
      all_goals (
        go_roundw
        case rel =>
          have t1 : Trd b1 wr (wr.setCell ⟨b1, k, none⟩ (.int .i64 (y : Int))) := (Trd.refl b1 wr).setCell k _
          have t2 : Trd b2 (wr.setCell ⟨b1, k, none⟩ (.int .i64 (y : Int))) ((wr.setCell ⟨b1, k, none⟩ (.int .i64 (y : Int))).setCell ⟨b2, k, none⟩ (.int .i64 (z : Int))).drew := ((Trd.refl b2 _).setCell k _).drew
          have e1 : (Value.slice (some ⟨b1, 0, none⟩) N N).ownBlock ≠ some b2 := fun h => hne (Option.some.inj h)
          have e2 : (Value.slice (some ⟨b2, 0, none⟩) N N).ownBlock ≠ some b1 := fun h => hne (Option.some.inj h).symm
          refine ⟨k + 1, by omega, by go_num, t2.fe ((F1.out.set k y).congr (fun i _ => G1.out i)) e1, (((t1.fe F2.out e2).set k z).congr (fun i _ => G2.out i)).kept (Kp.refl _).drew, t2.lc hnb4 (t1.lc hnb3 HL.out), t2.lc (by omega) (t1.lc (by omega) HL0.out), fun o => ?_, t2.kp w (t1.kp w KW.out (by omega)) (by omega)⟩
          have q1 := HZ0.out o
          rw [World.frozen?_drew, World.frozen?_setCell, World.frozen?_setCell]
          exact q1
        case measure => simp [intOf]; omega)
    · obtain rfl : k = N := by omega
      have HF1 : Hid (Fe 67 wr (w.heap.size + 1 + 1) (.slice (some ⟨b1, 0, none⟩) k k) k (fun i => ((bf t (14 + i) / 64 : Nat) : Int))) := F1.out.congr (fun j hj => by unfold pF; rw [if_pos hj])
      have HF2 : Hid (Fe 3 wr (w.heap.size + 1 + 1) (.slice (some ⟨b2, 0, none⟩) k k) k (fun i => ((bf t (14 + i) % 64 : Nat) : Int))) := F2.out.congr (fun j hj => by unfold pF; rw [if_pos hj])
      have HNB : Hid (b1 ≠ w.heap.size + 1 ∧ b2 ≠ w.heap.size + 1) := ⟨by omega, by omega⟩
      have q0 := HZ0.out 0
      have q1 := HZ0.out 1
      have q2 := HZ0.out 2
      have q3 := HZ0.out 3
      have q4 := HZ0.out 4
      obtain ⟨l0, l1, l2, l3, l4⟩ := HL0.out
      clear F1 F2
      go_wp2
      have t2 := (Trd.refl (w.heap.size + 1) wr).over k S EP (.slice (some ⟨b1, 0, none⟩) k k) (.slice (some ⟨b2, 0, none⟩) k k)
      have n1 := (t2.fe HF1.out (fun h => HNB.out.1 (Option.some.inj h))).mono (b2 := w.heap.size) (by omega)
      have n2 := (t2.fe HF2.out (fun h => HNB.out.2 (Option.some.inj h))).mono (b2 := w.heap.size) (by omega)
      refine bodyPost_ret (results_lb rfl _ _ (w.heap.size + 1) rfl (HL0.out.over (n2 := k) (s2 := S) (ep2 := EP) (sv2 := .slice (some ⟨b1, 0, none⟩) k k) (mv2 := .slice (some ⟨b2, 0, none⟩) k k))) rfl ?_
      exact ⟨_, _, rfl, n1, n2, t2.kp w KW.out (by omega)⟩

end Go.Proofs.Ytobpgfnmhpgkeaa
