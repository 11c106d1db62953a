/-
  For every list of spans, every span, and whether the list is made whole or not, the law function SpansChange returns true (Go: trunnionlaw08.SpansChange). No condition.
-/
import Derived.Test.YtmkmejdbhikomaaRows
import Derived.Test.YtmkmejdbhikomaaBufArgs
import Derived.Test.YtmkmejdbhikomaaSpMask
import Derived.WalkKit
import Derived.ProofKit
import Derived.OpenShut
import Derived.ShutString
import Derived.Deep.QuietTactic
import Derived.BigQuiet
import Derived.Deep.RegionWith
import Derived.Deep.DeepCutAuto
import Derived.Deep.CutBlock
namespace Go.Proofs.Ytmkmejdbhikomaa.spansChange
open Go.ChangeShapes Go.WideShapes Go.ChangeAt Go.RowKit
open Go.ChangeMaps (open_string shut_string)
open Go.Proofs.Ytmkmejdbhikomaa Plain
set_option linter.unusedVariables false

theorem own : ownKnob Try.prog.godebug = none := by kernel_rfl
theorem laidOut : laidOutB Try.prog = true := by kernel_rfl
theorem cellsI : Try.prog.cellsOf 3 = 1 := by kernel_rfl
theorem cellsSp : Try.prog.cellsOf 23 = 2 := by kernel_rfl
theorem res_same {l R R2 : List (Int × Int)} {s : (Int × Int)} {f : Bool → Bool → Bool} {kd : Int} (hf : ∀ a b, f a b = kF kd a b) (h0 : rfE l s = 0 → G R ∧ ∀ x, hs R x = f (hs l x) (inS s x)) (h1 : rfE l s ≠ 0 → R = []) (k0 : rfE l s = 0 → G R2 ∧ ∀ x, hs R2 x = kF kd (hs l x) (inS s x)) (k1 : rfE l s ≠ 0 → R2 = []) : decide (R = R2) = true := by
  refine decide_eq_true ?_
  by_cases hz : rfE l s = 0
  · obtain ⟨a, b⟩ := h0 hz
    obtain ⟨c, d⟩ := k0 hz
    exact a.one c (fun x => by rw [b x, d x, hf])
  · rw [h1 hz, k1 hz]
set_option maxRecDepth 100000 in
set_option maxHeartbeats 4000000 in
theorem walkN (w : World) (v1 : Value) (l1 : List (Int × Int)) (x y : Int) (whole : Bool) (h1 : SpIn w v1 l1) :
    Calls Try.prog 4 #[v1, .agg #[.int .i64 x, .int .i64 y], .bool whole] w fun e w' => e = .returned (.bool true) ∧ Kp w w' := by
  obtain ⟨w0, hw0⟩ : ∃ w0, w0 = w.alloc (.cells #[.int .i64 x, .int .i64 y] 23) := ⟨_, rfl⟩
  have HW : Hid (w0 = w.alloc (.cells #[.int .i64 x, .int .i64 y] 23)) := hw0
  have k0 : Kp w w0 := by rw [hw0]; exact (Kp.refl w).alloc _
  have c0 : w0.cell? ⟨w.heap.size, 0, none⟩ = some (.int .i64 x) := by rw [hw0]; simp
  have c1 : w0.cell? ⟨w.heap.size, 1, none⟩ = some (.int .i64 y) := by rw [hw0]; simp
  have hA := lists_any v1 l1 whole w0 (h1.kept k0)
  have hmf : ∀ (fn : Fn) (first cap : Array Value) (w : World), (Instr.makeFunc fn first cap).run Try.prog w = .ok (.func fn first cap) w := fun _ _ _ _ => rfl
  clear h1 hw0
  go_enter Try.func4, Try.ntmps4
  go_wp2_with fail
  rw [show w.alloc (.cells #[.int .i64 x, .int .i64 y] 23) = w0 from HW.out.symm]
  clear HW
  refine hA.mono ?_; rintro e w1 ⟨va, vb, L, rfl, hL, _⟩
  have HL : Hid (LsR w0 w1 va vb L) := hL
  have q0 := hL.k.held c0
  have q1 := hL.k.held c1
  have K1 : Hid (Kp w w1) := k0.trans hL.k
  have hb0 : w.heap.size < w1.heap.size := World.block_lt_of_cell? _ _ q0
  clear hA hL c0 c1 k0
  go_wp2_with fail
  go_cut [9, 10] (fun p q wx => ∃ b1 b2, p = .pointer (some ⟨b1, 0, none⟩) ∧ q = .pointer (some ⟨b2, 0, none⟩) ∧ (wx.cell? ⟨b1, 0, none⟩ = some (.int .i64 x) ∧ wx.cell? ⟨b1, 1, none⟩ = some (.int .i64 y) ∧ wx.cell? ⟨b2, 0, none⟩ = some (.int .i64 x) ∧ wx.cell? ⟨b2, 1, none⟩ = some (.int .i64 y)) ∧ Kp w1 wx)
  case first =>
    go_region
    all_goals (go_wp2_with fail; go_meet)
    · obtain ⟨⟨⟨t1, t2⟩, t3, t4⟩, t5⟩ := two_boxes w1 (.int .i64 x) (.int .i64 y) (.int .i64 x) (.int .i64 y) 30 31
      exact ⟨_, _, rfl, rfl, ⟨t1, t2, t3, t4⟩, t5⟩
    · obtain ⟨⟨⟨t1, t2⟩, t3, t4⟩, t5⟩ := two_boxes w1 (.int .i64 x) (.int .i64 y) (.int .i64 x) (.int .i64 y) 31 30
      exact ⟨_, _, rfl, rfl, ⟨t3, t4, t1, t2⟩, t5⟩
  obtain ⟨b1, b2, rfl, rfl, ⟨c0, c1, c2, c3⟩, K2⟩ := hcut
  obtain ⟨w2, hw2⟩ : ∃ w2, w2 = wc := ⟨_, rfl⟩
  rw [← hw2] at c0 c1 c2 c3 K2 ⊢
  clear hw2 q0 q1
  obtain ⟨w3, hw3⟩ : ∃ w3, w3 = w2.alloc (.cells #[.func (.func 20) #[va] #[], .func (.func 21) #[va] #[], .func (.func 22) #[va] #[], .func (.func 23) #[va] #[]] 41) := ⟨_, rfl⟩
  have HW3 : Hid _ := hw3
  have K3 : Hid (Kp w1 w3) := by rw [hw3]; exact K2.alloc _
  have C : Hid (w3.cell? ⟨b1, 0, none⟩ = some (.int .i64 x) ∧ w3.cell? ⟨b1, 1, none⟩ = some (.int .i64 y) ∧ w3.cell? ⟨b2, 0, none⟩ = some (.int .i64 x) ∧ w3.cell? ⟨b2, 1, none⟩ = some (.int .i64 y)) := by
    rw [hw3]
    have k := (Kp.refl w2).alloc (.cells #[.func (.func 20) #[va] #[], .func (.func 21) #[va] #[], .func (.func 22) #[va] #[], .func (.func 23) #[va] #[]] 41)
    exact ⟨k.held c0, k.held c1, k.held c2, k.held c3⟩
  have F : Hid (∀ W, Kp w3 W → W.cell? ⟨w2.heap.size, 0, none⟩ = some (.func (.func 20) #[va] #[]) ∧ W.cell? ⟨w2.heap.size, 1, none⟩ = some (.func (.func 21) #[va] #[]) ∧ W.cell? ⟨w2.heap.size, 2, none⟩ = some (.func (.func 22) #[va] #[]) ∧ W.cell? ⟨w2.heap.size, 3, none⟩ = some (.func (.func 23) #[va] #[])) := fun W k => by
    rw [hw3] at k
    refine ⟨k.held ?_, k.held ?_, k.held ?_, k.held ?_⟩ <;> (rw [World.cell?_alloc_at _ _ _ _ rfl]; rfl)
  go_wp2
  rw [show w2.alloc _ = w3 from hw3.symm]
  clear hw3 K2 c0 c1 c2 c3
  go_loopw [35] (fun i wr => ∃ k : Nat, k ≤ 4 ∧ i = .int .i64 k ∧ Kp w3 wr) (fun i _ => 4 - (intOf i).toNat)
  case atStart => exact ⟨0, by omega, rfl, Kp.refl w3⟩
  case round =>
    obtain ⟨k, hk, rfl, hK⟩ := hrel
    obtain ⟨g0, g1, g2, g3⟩ := F.out wr hK
    have d0 := hK.held C.out.1
    have d1 := hK.held C.out.2.1
    have d2 := hK.held C.out.2.2.1
    have d3 := hK.held C.out.2.2.2
    by_cases hlt : k < 4
    · have hq : k = 0 ∨ k = 1 ∨ k = 2 ∨ k = 3 := by omega
      rcases hq with rfl | rfl | rfl | rfl
      · have hS := add_any va L (x, y) wr (HL.out.a.kept (K3.out.trans hK)) (by have := HL.out.len; omega)
        have HC : Hid (∀ w', Kp wr w' → Calls Try.prog 24 #[vb, spV (x, y), .int .i64 0] w' fun e w'' => ∃ u R, e = .returned (.tuple #[u, .int .i64 (rfE L (x, y))]) ∧ SpIn w'' u R ∧ Kp w' w'' ∧ (rfE L (x, y) = 0 → G R ∧ ∀ z, hs R z = kF 0 (hs L z) (inS (x, y) z)) ∧ (rfE L (x, y) ≠ 0 → R = [])) := fun w' k5 => change_any vb L (x, y) 0 (by omega) w' (HL.out.b.kept ((K3.out.trans hK).trans k5)) (by have := HL.out.len; omega)
        unfold spV at hS HC
        obtain ⟨E, hE⟩ : ∃ E, E = rfE L (x, y) := ⟨_, rfl⟩
        unfold Res at hS
        have HRS : Hid (∀ R R2, (rfE L (x, y) = 0 → G R ∧ ∀ z, hs R z = (fun p q => p || q) (hs L z) (inS (x, y) z)) → (rfE L (x, y) ≠ 0 → R = []) → (rfE L (x, y) = 0 → G R2 ∧ ∀ z, hs R2 z = kF 0 (hs L z) (inS (x, y) z)) → (rfE L (x, y) ≠ 0 → R2 = []) → decide (R = R2) = true) := fun R R2 h0 h1 k0 k1 => res_same (f := (fun p q => p || q)) (fun a b => by cases a <;> cases b <;> rfl) h0 h1 k0 k1
        rw [← hE] at hS HC HRS
        clear hE
        go_wp2_with fail
        refine hS.mono ?_; rintro e w5 ⟨ra, R, rfl, s1, k5, _, t0, t1⟩
        have S1 : Hid (SpIn w5 ra R) := s1
        have T : Hid ((E = 0 → G R ∧ ∀ z, hs R z = (fun p q => p || q) (hs L z) (inS (x, y) z)) ∧ (E ≠ 0 → R = [])) := ⟨t0, t1⟩
        have K5 : Hid (Kp wr w5) := k5
        have f2 := k5.held d2
        have f3 := k5.held d3
        clear hS s1 k5 t0 t1 d0 d1 d2 d3
        go_wp2_with fail
        refine Calls.mono (HC.out w5 K5.out) ?_; rintro e w6 ⟨rb, R2, rfl, s2, k6, t2, t3⟩
        have hT := same_any ra rb R R2 w6 (S1.out.kept k6) s2
        rw [HRS.out R R2 T.out.1 T.out.2 t2 t3] at hT
        have K6 : Hid (Kp w3 w6) := (hK.trans K5.out).trans k6
        clear HC HRS T S1 s2 k6 t2 t3 K5 f2 f3 hK
        go_wp2_with fail
        refine hT.mono ?_; rintro e w7 ⟨rfl, k7⟩
        have K7 := K6.out.trans k7
        clear hT k7 K6
        go_wp2
        go_roundw
        case rel => exact ⟨0 + 1, by omega, by go_num, K7⟩
        case measure => simp [intOf]
      · have hS := cut_any va L (x, y) wr (HL.out.a.kept (K3.out.trans hK)) (by have := HL.out.len; omega)
        have HC : Hid (∀ w', Kp wr w' → Calls Try.prog 24 #[vb, spV (x, y), .int .i64 1] w' fun e w'' => ∃ u R, e = .returned (.tuple #[u, .int .i64 (rfE L (x, y))]) ∧ SpIn w'' u R ∧ Kp w' w'' ∧ (rfE L (x, y) = 0 → G R ∧ ∀ z, hs R z = kF 1 (hs L z) (inS (x, y) z)) ∧ (rfE L (x, y) ≠ 0 → R = [])) := fun w' k5 => change_any vb L (x, y) 1 (by omega) w' (HL.out.b.kept ((K3.out.trans hK).trans k5)) (by have := HL.out.len; omega)
        unfold spV at hS HC
        obtain ⟨E, hE⟩ : ∃ E, E = rfE L (x, y) := ⟨_, rfl⟩
        unfold Res at hS
        have HRS : Hid (∀ R R2, (rfE L (x, y) = 0 → G R ∧ ∀ z, hs R z = (fun p q => p && !q) (hs L z) (inS (x, y) z)) → (rfE L (x, y) ≠ 0 → R = []) → (rfE L (x, y) = 0 → G R2 ∧ ∀ z, hs R2 z = kF 1 (hs L z) (inS (x, y) z)) → (rfE L (x, y) ≠ 0 → R2 = []) → decide (R = R2) = true) := fun R R2 h0 h1 k0 k1 => res_same (f := (fun p q => p && !q)) (fun a b => by cases a <;> cases b <;> rfl) h0 h1 k0 k1
        rw [← hE] at hS HC HRS
        clear hE
        go_wp2_with fail
        refine hS.mono ?_; rintro e w5 ⟨ra, R, rfl, s1, k5, _, t0, t1⟩
        have S1 : Hid (SpIn w5 ra R) := s1
        have T : Hid ((E = 0 → G R ∧ ∀ z, hs R z = (fun p q => p && !q) (hs L z) (inS (x, y) z)) ∧ (E ≠ 0 → R = [])) := ⟨t0, t1⟩
        have K5 : Hid (Kp wr w5) := k5
        have f2 := k5.held d2
        have f3 := k5.held d3
        clear hS s1 k5 t0 t1 d0 d1 d2 d3
        go_wp2_with fail
        refine Calls.mono (HC.out w5 K5.out) ?_; rintro e w6 ⟨rb, R2, rfl, s2, k6, t2, t3⟩
        have hT := same_any ra rb R R2 w6 (S1.out.kept k6) s2
        rw [HRS.out R R2 T.out.1 T.out.2 t2 t3] at hT
        have K6 : Hid (Kp w3 w6) := (hK.trans K5.out).trans k6
        clear HC HRS T S1 s2 k6 t2 t3 K5 f2 f3 hK
        go_wp2_with fail
        refine hT.mono ?_; rintro e w7 ⟨rfl, k7⟩
        have K7 := K6.out.trans k7
        clear hT k7 K6
        go_wp2
        go_roundw
        case rel => exact ⟨1 + 1, by omega, by go_num, K7⟩
        case measure => simp [intOf]
      · have hS := meet_any va L (x, y) wr (HL.out.a.kept (K3.out.trans hK)) (by have := HL.out.len; omega)
        have HC : Hid (∀ w', Kp wr w' → Calls Try.prog 24 #[vb, spV (x, y), .int .i64 2] w' fun e w'' => ∃ u R, e = .returned (.tuple #[u, .int .i64 (rfE L (x, y))]) ∧ SpIn w'' u R ∧ Kp w' w'' ∧ (rfE L (x, y) = 0 → G R ∧ ∀ z, hs R z = kF 2 (hs L z) (inS (x, y) z)) ∧ (rfE L (x, y) ≠ 0 → R = [])) := fun w' k5 => change_any vb L (x, y) 2 (by omega) w' (HL.out.b.kept ((K3.out.trans hK).trans k5)) (by have := HL.out.len; omega)
        unfold spV at hS HC
        obtain ⟨E, hE⟩ : ∃ E, E = rfE L (x, y) := ⟨_, rfl⟩
        unfold Res at hS
        have HRS : Hid (∀ R R2, (rfE L (x, y) = 0 → G R ∧ ∀ z, hs R z = (fun p q => p && q) (hs L z) (inS (x, y) z)) → (rfE L (x, y) ≠ 0 → R = []) → (rfE L (x, y) = 0 → G R2 ∧ ∀ z, hs R2 z = kF 2 (hs L z) (inS (x, y) z)) → (rfE L (x, y) ≠ 0 → R2 = []) → decide (R = R2) = true) := fun R R2 h0 h1 k0 k1 => res_same (f := (fun p q => p && q)) (fun a b => by cases a <;> cases b <;> rfl) h0 h1 k0 k1
        rw [← hE] at hS HC HRS
        clear hE
        go_wp2_with fail
        refine hS.mono ?_; rintro e w5 ⟨ra, R, rfl, s1, k5, _, t0, t1⟩
        have S1 : Hid (SpIn w5 ra R) := s1
        have T : Hid ((E = 0 → G R ∧ ∀ z, hs R z = (fun p q => p && q) (hs L z) (inS (x, y) z)) ∧ (E ≠ 0 → R = [])) := ⟨t0, t1⟩
        have K5 : Hid (Kp wr w5) := k5
        have f2 := k5.held d2
        have f3 := k5.held d3
        clear hS s1 k5 t0 t1 d0 d1 d2 d3
        go_wp2_with fail
        refine Calls.mono (HC.out w5 K5.out) ?_; rintro e w6 ⟨rb, R2, rfl, s2, k6, t2, t3⟩
        have hT := same_any ra rb R R2 w6 (S1.out.kept k6) s2
        rw [HRS.out R R2 T.out.1 T.out.2 t2 t3] at hT
        have K6 : Hid (Kp w3 w6) := (hK.trans K5.out).trans k6
        clear HC HRS T S1 s2 k6 t2 t3 K5 f2 f3 hK
        go_wp2_with fail
        refine hT.mono ?_; rintro e w7 ⟨rfl, k7⟩
        have K7 := K6.out.trans k7
        clear hT k7 K6
        go_wp2
        go_roundw
        case rel => exact ⟨2 + 1, by omega, by go_num, K7⟩
        case measure => simp [intOf]
      · have hS := gaps_any va L (x, y) wr (HL.out.a.kept (K3.out.trans hK)) (by have := HL.out.len; omega)
        have HC : Hid (∀ w', Kp wr w' → Calls Try.prog 24 #[vb, spV (x, y), .int .i64 3] w' fun e w'' => ∃ u R, e = .returned (.tuple #[u, .int .i64 (rfE L (x, y))]) ∧ SpIn w'' u R ∧ Kp w' w'' ∧ (rfE L (x, y) = 0 → G R ∧ ∀ z, hs R z = kF 3 (hs L z) (inS (x, y) z)) ∧ (rfE L (x, y) ≠ 0 → R = [])) := fun w' k5 => change_any vb L (x, y) 3 (by omega) w' (HL.out.b.kept ((K3.out.trans hK).trans k5)) (by have := HL.out.len; omega)
        unfold spV at hS HC
        obtain ⟨E, hE⟩ : ∃ E, E = rfE L (x, y) := ⟨_, rfl⟩
        unfold Res at hS
        have HRS : Hid (∀ R R2, (rfE L (x, y) = 0 → G R ∧ ∀ z, hs R z = (fun p q => q && !p) (hs L z) (inS (x, y) z)) → (rfE L (x, y) ≠ 0 → R = []) → (rfE L (x, y) = 0 → G R2 ∧ ∀ z, hs R2 z = kF 3 (hs L z) (inS (x, y) z)) → (rfE L (x, y) ≠ 0 → R2 = []) → decide (R = R2) = true) := fun R R2 h0 h1 k0 k1 => res_same (f := (fun p q => q && !p)) (fun a b => by cases a <;> cases b <;> rfl) h0 h1 k0 k1
        rw [← hE] at hS HC HRS
        clear hE
        go_wp2_with fail
        refine hS.mono ?_; rintro e w5 ⟨ra, R, rfl, s1, k5, _, t0, t1⟩
        have S1 : Hid (SpIn w5 ra R) := s1
        have T : Hid ((E = 0 → G R ∧ ∀ z, hs R z = (fun p q => q && !p) (hs L z) (inS (x, y) z)) ∧ (E ≠ 0 → R = [])) := ⟨t0, t1⟩
        have K5 : Hid (Kp wr w5) := k5
        have f2 := k5.held d2
        have f3 := k5.held d3
        clear hS s1 k5 t0 t1 d0 d1 d2 d3
        go_wp2_with fail
        refine Calls.mono (HC.out w5 K5.out) ?_; rintro e w6 ⟨rb, R2, rfl, s2, k6, t2, t3⟩
        have hT := same_any ra rb R R2 w6 (S1.out.kept k6) s2
        rw [HRS.out R R2 T.out.1 T.out.2 t2 t3] at hT
        have K6 : Hid (Kp w3 w6) := (hK.trans K5.out).trans k6
        clear HC HRS T S1 s2 k6 t2 t3 K5 f2 f3 hK
        go_wp2_with fail
        refine hT.mono ?_; rintro e w7 ⟨rfl, k7⟩
        have K7 := K6.out.trans k7
        clear hT k7 K6
        go_wp2
        go_roundw
        case rel => exact ⟨3 + 1, by omega, by go_num, K7⟩
        case measure => simp [intOf]
    · obtain rfl : k = 4 := by omega
      clear g0 g1 g2 g3 d0 d1 d2 d3
      go_wp2_with fail
      refine (wakes_any _).mono ?_; rintro e w5 ⟨rfl, k5⟩
      have K5 := ((K1.out.trans K3.out).trans hK).trans k5
      clear hK k5
      go_wp2
      go_ret
      exact ⟨rfl, K5⟩
theorem walk (w : World) (a0 : Value) (l0 : List (Int × Int)) (a1 b1 : Int) (a2 : Bool) (w0 : SpIn w a0 l0) (w1 : (Lit.int .i64 a1).wf = true) (x1 : (Lit.int .i64 b1).wf = true) :
    Calls Try.prog 4 #[a0, .agg #[.int .i64 a1, .int .i64 b1], .bool a2] w fun e w' => e = .returned (.bool true) ∧ Kp w w' := by
  exact walkN w a0 l0 a1 b1 a2 w0

set_option maxRecDepth 100000 in
theorem lifted (os : Os) (started : os.Started) (H : Type) (enc : TypeId × Value → H) :
    ReturnsInHanded {} Try.checked os 4 .any (Rows.spansChangeSpec.pre6 enc Try.prog Try.f4 Rows.spansChangeRow.domain false) (Rows.spansChangeSpec.post enc Try.prog Try.f4 false true false false) := by
  refine returnsInHanded_of_change (C := Try.checked) own started (by kernel_rfl) Try.func4
    (ChangeSpec.witness6 (enc := enc) (C := Try.checked) false ⟨#[], #[.slice none 0 0, .agg #[.int .i64 0, .int .i64 0], .bool false], []⟩ 8 (by kernel_rfl) (by kernel_rfl) (by kernel_rfl) (by kernel_rfl)) ?_
  intro W base args ds gs before hval0 hW hcnd _
  have hval : ∀ (j : Nat) t v, Try.f4.params[j]? = some t → args[j]? = some v → Value.okWide Try.prog W .any base t v := hval0
  have hW' := hW
  have hlt := hW.lt
  obtain ⟨p, q, hA0, hV, rfl, hfz, hnd⟩ := hW
  have hA : DataW.TrodAll enc Try.prog W 0 (fun _ => true) true Try.f4.params.toList args.toList ds p := hA0
  have hAk := hA
  rw [Try.params4] at hA hval
  obtain ⟨v0, vs0, d0, ds0, p0, q0, hargs, rfl, rfl, h0, r0⟩ := trodAll_cons hA
  obtain ⟨v1, vs1, d1, ds1, p1, q1, rfl, rfl, rfl, h1, r1⟩ := trodAll_cons r0
  obtain ⟨v2, vs2, d2, ds2, p2, q2, rfl, rfl, rfl, h2, r2⟩ := trodAll_cons r1
  obtain ⟨rfl, rfl, rfl⟩ := trodAll_nil r2
  obtain rfl : args = #[v0, v1, v2] := by cases args; simp_all
  obtain ⟨rfl, rfl⟩ := trodVars_none hV
  obtain ⟨l0, w0⟩ := open_spans Try.underlying24 Try.underlying23 cellsSp rfl rfl cellsI cellsI Try.underlying3 Try.underlying3 (hval 0 24 v0 rfl rfl) h0
  obtain ⟨a1, b1, rfl, w1, x1⟩ := open_span Try.underlying23 cellsSp rfl rfl cellsI cellsI Try.underlying3 Try.underlying3 (hval 1 23 v1 rfl rfl) h1
  obtain ⟨a2, rfl, rfl, rfl⟩ := open_bool Try.underlying4 (hval 2 4 v2 rfl rfl) h2
  clear hA0 hval0
  simp only [List.append_nil] at hW' hAk hlt
  refine (walk W v0 l0 a1 b1 a2 w0 w1 x1).mono fun e W' ⟨he, hg⟩ => ?_
  subst he
  exact ⟨_, rfl, post_kp (pv := []) hW' (fun _ _ _ => (trodAll_cons_mk (shut_bool Try.underlying4 _) trodAll_mk0)) (fun sp hsp => trodAll_stays laidOut (by rw [Try.params4]; exact of_decide_eq_true (by kernel_rfl)) hAk (fun x hx => Below.same hg (hlt x hx)) hsp) (fun _ _ => rfl) (by simp) hg⟩

theorem over : Rows.spansChangeRow.holds Try.pinned (OpenSpec.ofChange Rows.spansChangeSpec) :=
  OpenClaim.holds_of_wide 4 Try.f4 rfl rfl rfl rfl rfl rfl rfl ⟨rfl, rfl, rfl, rfl, rfl⟩ rfl rfl rfl rfl rfl (by kernel_rfl) Try.func4 (by kernel_rfl)
    (of_decide_eq_true (by kernel_rfl)) (by unfold Func.isWrapper; first | (rw [if_pos (by decide +kernel)]; kernel_rfl) | (rw [if_neg (by decide +kernel)]; exact ⟨rfl, rfl⟩))
    (fun os started H enc _ => lifted os started H enc)

end Go.Proofs.Ytmkmejdbhikomaa.spansChange
namespace Go.Proofs.Ytmkmejdbhikomaa
theorem spansChange_holds : Rows.SpansChangeSaid := spansChange.over
end Go.Proofs.Ytmkmejdbhikomaa
