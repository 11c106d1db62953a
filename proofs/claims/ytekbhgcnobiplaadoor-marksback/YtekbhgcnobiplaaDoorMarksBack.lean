/-
  For every set of four words the law function MarksBack returns true (Go: trunnionlaw07.MarksBack). Condition: the library table math/bits.deBruijn64tab reads as its text lays it (the card ties it).
-/
import Derived.Test.YtekbhgcnobiplaaDoorRows
import Derived.Test.YtekbhgcnobiplaaDoorCards
import Derived.Test.YtekbhgcnobiplaaDoorTie
import Derived.Test.YtekbhgcnobiplaaDoorMkDoor
import Derived.Test.YtekbhgcnobiplaaDoorMkDoor
import Derived.Test.YtekbhgcnobiplaaDoorMkTail
import Derived.Test.YtekbhgcnobiplaaDoorBufCls
import Derived.WalkKit
import Derived.ProofKit
import Derived.OpenShut
import Derived.ShutString
import Derived.LaidMore
import Derived.SevenTiedAt
import Derived.Stop.Joined
import Derived.RegionTactic
import Derived.BigRegion
import Derived.BigQuiet
import Derived.Deep.RegionWith
import Derived.Deep.DeepCutAuto
namespace Go.Proofs.YtekbhgcnobiplaaDoor.marksBack
open Go.ChangeShapes Go.WideShapes Go.ChangeAt Go.RowKit
open Go.ChangeMaps (open_string shut_string)
open Go.Proofs.YtekbhgcnobiplaaDoor Plain Go.BigFrame
set_option linter.unusedVariables false

theorem own : ownKnob Tryd.prog.godebug = none := by kernel_rfl
theorem laidOut : laidOutB Tryd.prog = true := by kernel_rfl
theorem cellsU : Tryd.prog.cellsOf 23 = 1 := by kernel_rfl
theorem cellsV : Tryd.prog.cellsOf 24 = 4 := by kernel_rfl
theorem eq_self (f : Nat → Bool) (w : World) : (Op.equalIn 10000 25 (SV f) (SV f)).run Tryd.prog w = .ok true w := by
  rw [eqS, eqB_of (fun _ _ => rfl)]
theorem mask8 (n : Int) : bits .and .i64 n 255 = n % 256 := by
  have h : (BitVec.ofInt 64 255).toNat = 2 ^ 8 - 1 := by decide
  have key : (BitVec.ofInt 64 n &&& BitVec.ofInt 64 255).toNat = (n % ((2 ^ 64 : Nat) : Int)).toNat % 2 ^ 8 := by
    rw [BitVec.toNat_and, BitVec.toNat_ofInt, h, Nat.and_two_pow_sub_one_eq_mod]
  show IntKind.i64.wrap ((BitVec.ofInt 64 n &&& BitVec.ofInt 64 255).toNat : Nat) = n % 256
  rw [key, IntKind.wrap_i64]
  omega
theorem IntsIn_slice {w : World} {v : Value} {l : List Int} (h : IntsIn w v l) : ∃ a b off cap, v = .slice a l.length cap ∧ l.length ≤ 9223372036854775807 ∧ (0 < l.length → a = some ⟨b, off, none⟩) ∧ l.length ≤ cap ∧ cap ≤ 9223372036854775807 ∧ ∀ i, i < l.length → w.cell? ⟨b, off + i, none⟩ = some (.int .i64 (l.getD i 0)) := by
  cases h with
  | empty a cap h => exact ⟨a, 0, 0, cap, rfl, by simp, fun h => absurd h (by simp), by simp, by unfold maxLen at h; omega, fun i hi => absurd hi (by simp)⟩
  | some b off cap l h0 h1 h2 hc => exact ⟨_, b, off, cap, rfl, by unfold maxLen at h2; omega, fun _ => rfl, h1, by unfold maxLen at h2; omega, hc⟩
theorem PairsIn_slice {w : World} {v : Value} {l : List (Nat × Nat)} (h : PairsIn w v l) : ∃ a b cap, v = .slice a l.length cap ∧ (0 < l.length → a = some ⟨b, 0, none⟩) ∧ l.length ≤ cap ∧ cap ≤ 9223372036854775807 ∧ ∀ i, i < l.length → w.cell? ⟨b, 2 * i, none⟩ = some (.int .i64 ((l.getD i (0, 0)).1 : Nat)) ∧ w.cell? ⟨b, 2 * i + 1, none⟩ = some (.int .i64 ((l.getD i (0, 0)).2 : Nat)) := by
  cases h with
  | empty a cap h => exact ⟨a, 0, cap, rfl, fun h => absurd h (by simp), by simp, by unfold maxLen at h; omega, fun i hi => absurd hi (by simp)⟩
  | some b cap l h0 h1 h2 hc => exact ⟨_, b, cap, rfl, fun _ => rfl, h1, by unfold maxLen at h2; omega, hc⟩
theorem eqW {f g : Nat → Bool} (h : ∀ i, i < 256 → f i = g i) (w : World) : (Op.equalIn 10000 25 (SV f) (SV g)).run Tryd.prog w = .ok true w := by
  rw [eqS, eqB_of h]
theorem ints_put4 {w : World} {v : Value} {l : List Int} (h : IntsIn w v l) (c : Nat) (u : Nat → Nat) (hv : 0 < l.length → ∀ k, v.ownBlock = some k → k ≠ c) : IntsIn (put4 w c u) v l := by
  cases h with
  | empty a cap h => exact .empty a cap h
  | some b off cap l h0 h1 h2 hc => exact .some b off cap l h0 h1 h2 (fun i hi => by
      have hb : b ≠ c := hv h0 b rfl
      unfold put4
      rw [cell_far _ _ _ _ _ _ hb, cell_far _ _ _ _ _ _ hb, cell_far _ _ _ _ _ _ hb, cell_far _ _ _ _ _ _ hb]
      exact hc i hi)
theorem ints_lt {w : World} {v : Value} {l : List Int} (h : IntsIn w v l) (hl : 0 < l.length) (k : Nat) (hk : v.ownBlock = some k) : k < w.heap.size := by
  cases h with
  | empty a cap h => simp at hl
  | some b off cap l h0 h1 h2 hc =>
    obtain rfl : b = k := by simpa [Value.ownBlock] using hk
    exact World.block_lt_of_cell? w _ (hc 0 h0)
theorem pairs_put4 {w : World} {v : Value} {l : List (Nat × Nat)} (h : PairsIn w v l) {c : Nat} {u' : Nat → Nat} (a : A4 w c u') (u : Nat → Nat) : PairsIn (put4 w c u) v l := by
  cases h with
  | empty a cap h => exact .empty a cap h
  | some b cap l h0 h1 h2 hc =>
    have hb : b ≠ c := fun e => by
      subst e
      have h3 := (hc 0 h0).1
      rw [show 2 * 0 = 0 from rfl, a.c 0 (by omega)] at h3
      simp at h3
    exact .some b cap l h0 h1 h2 (fun i hi => by
      unfold put4
      rw [cell_far _ _ _ _ _ _ hb, cell_far _ _ _ _ _ _ hb, cell_far _ _ _ _ _ _ hb, cell_far _ _ _ _ _ _ hb, cell_far _ _ _ _ _ _ hb, cell_far _ _ _ _ _ _ hb, cell_far _ _ _ _ _ _ hb, cell_far _ _ _ _ _ _ hb]
      exact hc i hi)
theorem own_slice {w : World} {base : Nat} {e : TypeId} {size : Nat} {v : Value} {n : Nat} {xs : List Value} (h : w.ownsRow base e size v n xs) : ∃ a cap, v = .slice a n cap := by
  rcases h.2 with ⟨rfl, rfl⟩ | ⟨g, cap, cur, rfl, _⟩
  · exact ⟨none, 0, rfl⟩
  · exact ⟨_, cap, rfl⟩
theorem take_succ_pair (l : List (Nat × Nat)) (k : Nat) (h : k < l.length) : l.take (k + 1) = l.take k ++ [l.getD k (0, 0)] := by
  rw [List.take_add_one, List.getElem?_eq_getElem h, List.getD_eq_getElem?_getD, List.getElem?_eq_getElem h]; rfl
theorem in_runs (l : List (Nat × Nat)) (k : Nat) (h : k < l.length) (i : Nat) : orF (inR (l.take k)) (lessF (upF (((l.getD k (0, 0)).1 : Nat) + ((l.getD k (0, 0)).2 : Nat))) (upF ((l.getD k (0, 0)).1 : Nat))) i = inR (l.take (k + 1)) i := by
  rw [take_succ_pair l k h, inR_app]
  unfold orF lessF upF
  congr 1
  rw [Bool.and_comm, ← decide_not]
  congr 1
  · exact decide_eq_decide.2 (by omega)
  · exact decide_eq_decide.2 (by omega)
theorem getD_mem (l : List (Nat × Nat)) (k : Nat) (h : k < l.length) : l.getD k (0, 0) ∈ l := by
  rw [List.getD_eq_getElem?_getD, List.getElem?_eq_getElem h]
  exact List.getElem_mem h
set_option maxRecDepth 100000 in
set_option maxHeartbeats 16000000 in
theorem walkN (f : Nat → Bool) (w : World) (hT : Tab w) : Calls Tryd.prog 6 #[SV f] w fun e w' => e = .returned (.bool true) ∧ Kp w w' := by
  obtain ⟨w0, hw0⟩ : ∃ w0, w0 = (w.alloc (.cells (w4 (wd f)) 24)).alloc (.cells (w4 (wd f)) 25) := ⟨_, rfl⟩
  have k0 : Kp w w0 := by rw [hw0]; exact ((Kp.refl w).alloc _).alloc _
  have aP : A4 w0 (w.heap.size + 1) (wd f) := by
    have := A4.new (w.alloc (.cells (w4 (wd f)) 24)) (wd f) 25
    rw [hw0]; simpa using this
  have HW : Hid (w0 = (w.alloc (.cells (w4 (wd f)) 24)).alloc (.cells (w4 (wd f)) 25)) := hw0
  clear hw0
  have hL := list_any f w0 (hT.kp k0)
  unfold SV at hL ⊢
  obtain ⟨c0, c1, c2, c3⟩ := aP.cells
  go_enter Tryd.func6, Tryd.ntmps6
  go_wp2_with fail
  rw [show (w.alloc (.cells #[.int .u64 ((wd f 0 : Nat) : Int), .int .u64 ((wd f 1 : Nat) : Int), .int .u64 ((wd f 2 : Nat) : Int), .int .u64 ((wd f 3 : Nat) : Int)] 24)).alloc (.cells #[.int .u64 ((wd f 0 : Nat) : Int), .int .u64 ((wd f 1 : Nat) : Int), .int .u64 ((wd f 2 : Nat) : Int), .int .u64 ((wd f 3 : Nat) : Int)] 25) = w0 from HW.out.symm]
  clear HW
  refine hL.mono ?_; rintro e w1 ⟨lv, rfl, hI, k1⟩
  clear hL c0 c1 c2 c3
  obtain ⟨W1, hW1⟩ : ∃ W1, W1 = w1.alloc (.cells (w4 no4) 25) := ⟨_, rfl⟩
  have aB : A4 W1 w1.heap.size no4 := by rw [hW1]; exact A4.new w1 _ _
  have kW : Kp w1 W1 := by rw [hW1]; exact (Kp.refl w1).alloc _
  have HW : Hid (W1 = w1.alloc (.cells (w4 no4) 25)) := hW1
  clear hW1
  have aP1 := (aP.kept k1).kept kW
  have hlt1 : w.heap.size + 1 < w1.heap.size := (aP.kept k1).lt
  have K1 := (k0.trans k1).trans kW
  have hI1 := hI.kept kW
  have hbl : 0 < ((fl 256 f).map Int.ofNat).length → ∀ k, lv.ownBlock = some k → k ≠ w1.heap.size := fun h k hk => by have := ints_lt hI h k hk; omega
  have HB : Hid (0 < ((fl 256 f).map Int.ofNat).length → ∀ k, lv.ownBlock = some k → k ≠ w1.heap.size) := hbl
  clear aP k0 k1 kW hI hbl
  obtain ⟨B, hB⟩ : ∃ B, B = w1.heap.size := ⟨_, rfl⟩
  have hR := runs_any f W1 (hT.kp K1)
  unfold SV at hR
  obtain ⟨c0, c1, c2, c3⟩ := aP1.cells
  go_upto_region 4 with fail
  rw [show w1.alloc (.cells #[.int .u64 0, .int .u64 0, .int .u64 0, .int .u64 0] 25) = W1 from HW.out.symm]
  clear HW
  rw [← hB] at aB HB hlt1 ⊢
  clear hB
  go_wp2_with fail
  refine hR.mono ?_; rintro e w2 ⟨rv, rfl, hP, k2⟩
  clear hR c0 c1 c2 c3
  have aB2 := aB.kept k2
  have aP2 := aP1.kept k2
  have K2 := K1.trans k2
  have hI2 := hI1.kept k2
  clear aB aP1 K1 hI1 k2
  obtain ⟨r, b, cap, rfl, hr, hcap, hcap2, _⟩ := PairsIn_slice hP
  have hln := rn_len 256 f
  have HBD : Hid (∀ p ∈ rn 256 f, p.1 + p.2 ≤ 256) := rn_bound 256 f
  have HIN : Hid (∀ i, inR (rn 256 f) i = (decide (i < 256) && f i)) := rn_in 256 f
  obtain ⟨R, hRR⟩ : ∃ R, R = rn 256 f := ⟨_, rfl⟩
  rw [← hRR] at hr hcap hln HBD HIN hP ⊢
  clear hRR
  obtain ⟨n, hn⟩ : ∃ n, n = R.length := ⟨_, rfl⟩
  have HN : Hid (n = R.length) := hn
  rw [← hn] at hr hcap hln hP ⊢
  clear hn
  go_wp2
  go_loopw [17] (fun ix wr => ∃ j : Nat, j ≤ n ∧ ix = .int .i64 j ∧ A4 wr B (wd (inR (R.take j))) ∧ A4 wr (w.heap.size + 1) (wd f) ∧ PairsIn wr (.slice r n cap) R ∧ IntsIn wr lv ((fl 256 f).map Int.ofNat) ∧ Kp w wr) (fun ix _ => n - (intOf ix).toNat)
  case atStart => exact ⟨0, by omega, rfl, aB2.congr (fun k _ => (no_word k).symm), aP2, hP, hI2, K2⟩
  case round =>
    clear aB2 aP2 hP hI2 K2
    obtain ⟨j, hj, rfl, aB, aP, hP, hI, hK⟩ := hrel
    by_cases hlt : j < n
    · have hjR : j < R.length := by rw [← HN.out]; exact hlt
      obtain rfl := hr (by omega)
      obtain ⟨r', b', cap', hsl, hr', _, _, hp⟩ := PairsIn_slice hP
      have hbb : some (⟨b, 0, none⟩ : Addr) = some ⟨b', 0, none⟩ := by
        have h1 := hr' (by omega)
        have h2 : some (⟨b, 0, none⟩ : Addr) = r' := by simpa using (Value.slice.inj hsl).1
        rw [h2, h1]
      obtain rfl : b = b' := by simpa using hbb
      have c1 := (hp j hjR).1
      have c2 := (hp j hjR).2
      rw [show 2 * j = j * 2 by omega] at c1 c2
      have hbd := HBD.out _ (getD_mem R j hjR)
      have hS : ∀ i, orF (inR (R.take j)) (lessF (upF (((R.getD j (0, 0)).1 : Nat) + ((R.getD j (0, 0)).2 : Nat))) (upF ((R.getD j (0, 0)).1 : Nat))) i = inR (R.take (j + 1)) i := in_runs R j hjR
      obtain ⟨x, hx⟩ : ∃ x, x = (R.getD j (0, 0)).1 := ⟨_, rfl⟩
      obtain ⟨y, hy⟩ : ∃ y, y = (R.getD j (0, 0)).2 := ⟨_, rfl⟩
      rw [← hx] at c1 hbd hS
      rw [← hy] at c2 hbd hS
      clear hx hy hp hsl hr' hbb hr
      have m1 := upto_any ((x : Nat) + (y : Nat)) (by omega)
      have m2 := upto_any (x : Nat) (by omega)
      have m3 := less_any (upF ((x : Nat) + (y : Nat))) (upF (x : Nat))
      obtain ⟨g, hg⟩ : ∃ g, g = inR (R.take j) := ⟨_, rfl⟩
      obtain ⟨g', hg'⟩ : ∃ g', g' = inR (R.take (j + 1)) := ⟨_, rfl⟩
      have m4 := or_any g (lessF (upF ((x : Nat) + (y : Nat))) (upF (x : Nat)))
      rw [hg, SV_congr (fun i _ => hS i), ← hg, ← hg'] at m4
      rw [← hg] at aB
      unfold SV at m1 m2 m3 m4
      obtain ⟨W2, hW2⟩ : ∃ W2, W2 = wr.alloc (.cells #[.int .i64 (x : Nat), .int .i64 (y : Nat)] 47) := ⟨_, rfl⟩
      have kW2 : Kp wr W2 := by rw [hW2]; exact (Kp.refl wr).alloc _
      have t0 : W2.cell? ⟨wr.heap.size, 0, none⟩ = some (.int .i64 (x : Nat)) := by rw [hW2, World.cell?_alloc_at _ _ _ _ rfl]; rfl
      have t1 : W2.cell? ⟨wr.heap.size, 1, none⟩ = some (.int .i64 (y : Nat)) := by rw [hW2, World.cell?_alloc_at _ _ _ _ rfl]; rfl
      have HW2 : Hid (W2 = wr.alloc (.cells #[.int .i64 (x : Nat), .int .i64 (y : Nat)] 47)) := hW2
      clear hW2
      obtain ⟨z0, z1, z2, z3⟩ := (aB.kept kW2).cells
      have HR : Hid (∀ W, Kp W2 W → A4 W B (wd g) ∧ A4 (put4 W B (wd g')) B (wd (inR (R.take (j + 1)))) ∧ A4 (put4 W B (wd g')) (w.heap.size + 1) (wd f) ∧ PairsIn (put4 W B (wd g')) (.slice (some ⟨b, 0, none⟩) n cap) R ∧ IntsIn (put4 W B (wd g')) lv ((fl 256 f).map Int.ofNat) ∧ Kp w (put4 W B (wd g'))) := fun W h => by
        have h2 := kW2.trans h
        exact ⟨aB.kept h2, by rw [← hg']; exact (aB.kept h2).put _, (aP.kept h2).putFar (by omega) _, pairs_put4 (hP.kept h2) (aB.kept h2) _, ints_put4 (hI.kept h2) _ _ HB.out, (hK.trans h2).put4 (by have := hK.size; omega) _⟩
      clear aB aP hP hI hK hS hg hg' kW2
      go_wp2_with fail
      rw [show wr.alloc (.cells #[.int .i64 (x : Nat), .int .i64 (y : Nat)] 47) = W2 from HW2.out.symm]
      clear HW2 c1 c2
      obtain ⟨T, hTT⟩ : ∃ T, T = wr.heap.size := ⟨_, rfl⟩
      rw [← hTT] at t0 t1 ⊢
      clear hTT
      have hxy : IntKind.i64.wrap ((x : Int) + (y : Int)) = (x : Int) + (y : Int) := by rw [IntKind.wrap_i64]; omega
      have y0 := kpw_cell z0
      have y1 := kpw_cell z1
      have y2 := kpw_cell z2
      have y3 := kpw_cell z3
      have s0 := kpw_cell t0
      have s1 := kpw_cell t1
      refine wp_region_tail2 rfl (by kernel_rfl) (by kernel_rfl) (by kernel_rfl) ?_
      simp only [List.dropLast]
      repeat (first
        | go_big_quiet_skip
        | (go_big_quiet_want; go_big_quiet_op; go_big_quiet_on)
        | (go_big_quiet_want; go_big_quiet_op; apply Exists.intro; refine ⟨fun p => ?_, ?_⟩; (focus
            first
            | (go_at_call_of 8 (Value.int IntKind.i64 ((x : Int) + (y : Int))); exact kp_call (m1 _))
            | (go_at_call_of 8 (Value.int IntKind.i64 (x : Int)); exact kp_call (m2 _))
            | (go_at_call 22; exact kp_call (m3 _))
            | (go_at_call 19; exact kp_call (m4 _))); go_big_quiet_on))
      refine wpQuiet_nil ?_
      rintro w9 ⟨p, hp9⟩
      have kD : Kp W2 w9 := by rw [hp9]; exact kpw_kp W2 p
      clear hp9
      obtain ⟨v0, v1, v2, v3⟩ := (HR.out _ kD).1.cells
      have fz := (HR.out _ kD).1.z
      have HRR : Hid (A4 (put4 w9 B (wd g')) B (wd (inR (R.take (j + 1)))) ∧ A4 (put4 w9 B (wd g')) (w.heap.size + 1) (wd f) ∧ PairsIn (put4 w9 B (wd g')) (.slice (some ⟨b, 0, none⟩) n cap) R ∧ IntsIn (put4 w9 B (wd g')) lv ((fl 256 f).map Int.ofNat) ∧ Kp w (put4 w9 B (wd g'))) := (HR.out _ kD).2
      clear HR y0 y1 y2 y3 s0 s1 t0 t1 z0 z1 z2 z3 m1 m2 m3 m4 kD
      go_wp2
      go_roundw
      case rel => exact ⟨j + 1, by omega, by go_num, HRR.out⟩
      case measure => simp [intOf]; omega
    · obtain rfl : j = n := by omega
      rw [show R.take j = R by rw [HN.out, List.take_length]] at aB
      obtain ⟨i0, hi, hz0, hz1, hz2⟩ := info_parts info_int
      clear hP hr hcap hcap2 HBD
      have hN := next_any f 0 (by omega) wr (hT.kp hK)
      obtain ⟨e1, e2, e3, e4⟩ := fl_next f 0 (by omega)
      have HE : Hid (fl (nx f 0) f = []) := e1
      have HX : Hid (nx f 0 ≤ 256 ∧ (nx f 0 < 256 → f (nx f 0) = true)) := ⟨e3, e2⟩
      clear e1 e2 e3 e4
      obtain ⟨N0, hN0⟩ : ∃ N0, N0 = nx f 0 := ⟨_, rfl⟩
      rw [← hN0] at hN HE HX
      clear hN0
      unfold SV at hN
      obtain ⟨c0, c1, c2, c3⟩ := aP.cells
      go_wp2_with fail
      refine hN.mono ?_; rintro e W3 ⟨rfl, k3⟩
      clear hN c0 c1 c2 c3
      have aB3 := aB.kept k3
      have aP3 := aP.kept k3
      have hI3 := hI.kept k3
      have K3 := hK.trans k3
      have hown3 : W3.ownsRow W3.heap.size 3 1 (.slice none 0 0) (fl N0 f).length (iv (fl N0 f)) := by rw [HE.out]; exact World.ownsRow_nil _ _ _ _
      clear aB aP hI hK k3 HE
      go_wp2
      go_loopw [8, 9, 10] (fun v i ok wq => ∃ N : Nat, (N ≤ 256 ∧ (N < 256 → f N = true)) ∧ i = .int .i64 (nI N) ∧ ok = .bool (decide (N < 256)) ∧ wq.ownsRow W3.heap.size 3 1 v (fl N f).length (iv (fl N f)) ∧ Kp W3 wq) (fun _ i ok _ => meas i ok)
      case atStart => exact ⟨N0, HX.out, rfl, rfl, hown3, Kp.refl W3⟩
      case round =>
        clear hown3 HX
        obtain ⟨N, ⟨hN1, hN2⟩, rfl, rfl, hown, hKq⟩ := hrel
        by_cases hlt : N < 256
        · rw [show nI N = (N : Int) from if_pos hlt, decide_eq_true hlt]
          obtain ⟨e1, e2, e3, e4⟩ := fl_next f (N + 1) (by omega)
          have hx := fl_le N f
          rw [show min (N + 1) 256 = N + 1 by omega, show fl (N + 1) f = fl N f ++ [N] from if_pos (hN2 hlt)] at e1
          have hb := hKq.size
          have HL : Hid (fl (nx f (N + 1 : Nat)) f = fl N f ++ [N]) := e1
          have HX : Hid (nx f (N + 1 : Nat) ≤ 256 ∧ (nx f (N + 1 : Nat) < 256 → f (nx f (N + 1 : Nat)) = true) ∧ (nx f (N + 1 : Nat) < 256 → N + 1 ≤ nx f (N + 1 : Nat))) := ⟨e3, e2, e4⟩
          clear e1 e2 e3 e4 hN2
          obtain ⟨a', cp, rfl⟩ := own_slice hown
          obtain ⟨F, hF⟩ : ∃ F, F = fl N f := ⟨_, rfl⟩
          rw [← hF] at hown hx HL ⊢
          clear hF
          obtain ⟨q, hq⟩ : ∃ q, q = F.length := ⟨_, rfl⟩
          rw [← hq] at hown hx ⊢
          have HQ : Hid (q = F.length) := hq
          clear hq
          go_wp2_with (at_builtin; refine wpList_append_own _ rfl _ _ 22 rfl W3.heap.size 3 i0 (.int .i64 0) 1 8 Tryd.underlying22 hi hz0 hz1 hz2 rfl (by decide) _ _ _ rfl (hown.alloc _) ⟨wr.heap.size, 0, none⟩ 1 1 [.int .i64 (N : Int)] rfl rfl (cell_one_new _ _ _) (by simp [Value.oneCell']) (by unfold maxLen; omega) (by omega) (by simp; omega) ?_; intro v' w5 hown5 hgrow5 _; have K5 : Kp W3 w5 := (hKq.alloc _).grown hgrow5 (fun k hk => by have := own_lt hown k hk; omega); obtain ⟨c0, c1, c2, c3⟩ := (aP3.kept K5).cells)
          have hN := next_any f (N + 1 : Nat) (by omega) w5 (hT.kp (K3.trans K5))
          have hown6 : w5.ownsRow W3.heap.size 3 1 v' (fl (nx f (N + 1 : Nat)) f).length (iv (fl (nx f (N + 1 : Nat)) f)) := by
            rw [HL.out]
            unfold iv
            rw [List.length_append, List.map_append, ← HQ.out]
            exact hown5
          obtain ⟨M, hM⟩ : ∃ M, M = nx f (N + 1 : Nat) := ⟨_, rfl⟩
          rw [← hM] at hN hown6 HX
          clear HL hM hown5 hown hgrow5 hKq hb hx HQ
          unfold SV at hN
          refine hN.mono ?_; rintro e w6 ⟨rfl, k6⟩
          have K6 := K5.trans k6
          have hown7 := k6.own hown6
          have HXX := HX.out
          clear hN K5 hown6 k6 c0 c1 c2 c3
          go_wp2
          go_roundw
          case rel => exact ⟨M, ⟨HX.out.1, HX.out.2.1⟩, rfl, rfl, hown7, K6⟩
          case measure =>
            clear hown7 K6
            simp only [meas, intOf]
            by_cases hm : M < 256
            · have := HXX.2.2 hm
              rw [decide_eq_true hm, show nI M = (M : Int) from if_pos hm]
              simp only
              omega
            · rw [decide_eq_false hm]
              simp only
              omega
        · obtain rfl : N = 256 := by omega
          have HIB := IntsIn.owned hown
          have hI4 := hI3.kept hKq
          have K4 := K3.trans hKq
          obtain ⟨p0, p1, p2, p3⟩ := (aP3.kept hKq).cells
          obtain ⟨p4, p5, p6, p7⟩ := (aB3.kept hKq).cells
          obtain ⟨al, bl, ol, cl, hlv, hl9, _, _, _, _⟩ := IntsIn_slice hI4
          have hll : ((fl 256 f).map Int.ofNat).length = cn 256 f := by rw [List.length_map, fl_len]
          rw [hll] at hlv hl9
          have q0 := kpw_cell p0
          have q1 := kpw_cell p1
          have q2 := kpw_cell p2
          have q3 := kpw_cell p3
          have q4 := kpw_cell p4
          have q5 := kpw_cell p5
          have q6 := kpw_cell p6
          have q7 := kpw_cell p7
          have hTp : ∀ p, Tab (kpw wr p) := fun p => (hT.kp K4).kp (kpw_kp wr p)
          have m1 := fun p => of_any _ _ _ (hI4.kept (kpw_kp wr p))
          have m2 := fun p => equal_any _ _ _ _ (HIB.kept (kpw_kp wr p)) (hI4.kept (kpw_kp wr p))
          have m3 := count_any f
          have e1 := eqW (f := inL ((fl 256 f).map Int.ofNat)) (g := f) (fun i hi => inL_fl 256 f i hi)
          have e2 := eqW (f := inR R) (g := f) (fun i hi => by rw [HIN.out i, decide_eq_true hi]; rfl)
          subst hlv
          obtain ⟨cc, hcc⟩ : ∃ cc, cc = cn 256 f := ⟨_, rfl⟩
          rw [← hcc] at m1 m2 m3 hl9 ⊢
          obtain ⟨gl, hgl⟩ : ∃ gl, gl = inL ((fl 256 f).map Int.ofNat) := ⟨_, rfl⟩
          rw [← hgl] at m1 e1
          unfold SV at m1 m3 e1 e2
          clear p0 p1 p2 p3 p4 p5 p6 p7 aP3 aB3 hI3 K3 hI4 HIB hown hKq hll hcc hgl HIN
          go_wp2_with fail
          refine wp_region_kp (by kernel_rfl) (by kernel_rfl) ?_
          repeat (first
            | go_big_quiet_skip
            | (go_big_quiet_want; go_big_quiet_op; go_big_quiet_on)
            | (go_big_quiet_want; go_big_quiet_op; apply Exists.intro; refine ⟨fun p => ?_, ?_⟩; (focus
                first
                | (go_at_call 15; exact kp_call (wakes_any _ (hTp _)))
                | (go_at_call 16; exact kp_call (m1 _))
                | (go_at_call 30; exact kp_call (m2 _))
                | (go_at_call 23; exact kp_call (m3 _))); go_big_quiet_on))
          refine wpQuiet_nil ?_
          rintro w9 ⟨p, rfl⟩
          go_wp2
          go_ret
          exact ⟨rfl, K4.trans (kpw_kp wr p)⟩
theorem walk (w : World) (hT : Tab w) (f0 : Nat → Bool)  :
    Calls Tryd.prog 6 #[SV f0] w fun e w' => e = .returned (.bool true) ∧ Kp w w' := by
  exact walkN f0 w hT

set_option maxRecDepth 100000 in
theorem lifted (os : Os) (started : os.Started) (H : Type) (enc : TypeId × Value → H) :
    ReturnsInHanded {} Tryd.checked os 6 .any (fun w args => (Rows.marksBackSpec.pre enc Tryd.prog Tryd.f6 [] false w args ∧ laidMetH Tryd.prog lz w) ∧ sizedMet enc Tryd.prog Tryd.f6 (OpenSpec.ofChange Rows.marksBackSpec) false w args)
      (Rows.marksBackSpec.post enc Tryd.prog Tryd.f6 false true false false) := by
  refine returnsInHanded_of_change_and (C := Tryd.checked) (X := fun w _ => laidMetH Tryd.prog lz w) (fun _ _ _ hh h => h.of_heap hh) own started (by kernel_rfl) Tryd.func6
    (ChangeSpec.witness_shaped (enc := enc) (C := Tryd.checked) (os := os) (X := fun w _ => laidMetH Tryd.prog lz w) false (World.doorLaid Tryd.prog 400 os) #[.agg #[.int .u64 0, .int .u64 0, .int .u64 0, .int .u64 0]] 8 rfl (World.shaped_of_RefB (by kernel_rfl) (by kernel_rfl)) (by kernel_rfl) (by kernel_rfl) (by kernel_rfl) (door_met os _)) ?_
  intro W base args ds gs before hval0 hW hcnd _ hL _
  have hval : ∀ (j : Nat) t v, Tryd.f6.params[j]? = some t → args[j]? = some v → Value.okWide Tryd.prog W .any base t v := hval0
  have hW' := hW
  have hlt := hW.lt
  obtain ⟨p, q, hA0, hV, rfl, hfz, hnd⟩ := hW
  have hA : DataW.TrodAll enc Tryd.prog W 0 (fun _ => true) true Tryd.f6.params.toList args.toList ds p := hA0
  have hAk := hA
  rw [Tryd.params6] at hA hval
  obtain ⟨v0, vs0, d0, ds0, p0, q0, hargs, rfl, rfl, h0, r0⟩ := trodAll_cons hA
  obtain ⟨rfl, rfl, rfl⟩ := trodAll_nil r0
  obtain rfl : args = #[v0] := by cases args; simp_all
  obtain ⟨rfl, rfl⟩ := trodVars_none hV
  obtain ⟨a0, b0, c0, e0, rfl, w0, x0, y0, z0⟩ := open_set4 Tryd.underlying24 Tryd.underlying23 cellsU cellsV (hval 0 24 v0 rfl rfl) h0
  obtain ⟨f0, hf0⟩ := set_value a0 b0 c0 e0 w0 x0 y0 z0
  clear hA0 hval0
  simp only [List.append_nil] at hW' hAk hlt
  have hwk := walk W (of_laid hL) f0 
  rw [← hf0] at hwk
  refine hwk.mono fun e W' ⟨he, hg⟩ => ?_
  subst he
  exact ⟨_, rfl, post_kp (pv := []) hW' (fun _ _ _ => (trodAll_cons_mk (shut_bool Tryd.underlying4 _) trodAll_mk0)) (fun sp hsp => trodAll_stays laidOut (by rw [Tryd.params6]; exact of_decide_eq_true (by kernel_rfl)) hAk (fun x hx => Below.same hg (hlt x hx)) hsp) (fun _ _ => rfl) (by simp) hg⟩

theorem over : Rows.marksBackRow.holds Tryd.pinned (OpenSpec.ofChange Rows.marksBackSpec) :=
  OpenClaim.holds_of_wide 6 Tryd.f6 rfl rfl rfl rfl rfl rfl rfl ⟨rfl, rfl, rfl, rfl, rfl⟩ rfl rfl rfl rfl rfl (by kernel_rfl) Tryd.func6 (by kernel_rfl)
    (of_decide_eq_true (by kernel_rfl)) (by unfold Func.isWrapper; first | (rw [if_pos (by decide +kernel)]; kernel_rfl) | (rw [if_neg (by decide +kernel)]; exact ⟨rfl, rfl⟩))
    (fun os started H enc _ => lifted os started H enc)

theorem card : Claim7.holds Tryd.pinned (.plain (OpenSpec.ofChange Rows.marksBackSpec)) Rows.marksBackCard :=
  Claim7.holds_tied_plain_at .later [] [.data] true Rows.marksBackCard.stood.harness false
    over (fun _ h => by cases h) (by kernel_rfl) (fun _ h => by cases h) marksBack_row_tie rfl ⟨rfl, rfl⟩ (by kernel_rfl) rfl
    (fun f fn hf hfn => by
      have e : some f = some 6 := hf.symm.trans (by kernel_rfl)
      obtain rfl := Option.some.inj e
      obtain rfl : fn = Tryd.f6 := (Option.some.inj (Tryd.func6.symm.trans hfn)).symm
      exact ⟨by kernel_rfl, fun j t ht => by
        rw [Tryd.params6] at ht
        have hm : t ∈ [24] := by simpa using Array.mem_of_getElem? ht
        have hall : ([24].all fun u => !Tryd.prog.wantsStandIn u) = true := by kernel_rfl
        exact (show Tryd.prog.wantsStandIn t = false by simpa using List.all_eq_true.1 hall t hm)⟩)
    (by kernel_rfl)

end Go.Proofs.YtekbhgcnobiplaaDoor.marksBack
namespace Go.Proofs.YtekbhgcnobiplaaDoor
theorem marksBack_holds : Rows.MarksBackCardSaid := marksBack.card
end Go.Proofs.YtekbhgcnobiplaaDoor
