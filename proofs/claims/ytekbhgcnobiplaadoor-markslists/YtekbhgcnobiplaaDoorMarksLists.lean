/-
  For every set of four words and every number the law function MarksLists returns true (Go: trunnionlaw07.MarksLists). Condition: the library table math/bits.deBruijn64tab reads as its text lays it (the card ties it).
-/
import Derived.Test.YtekbhgcnobiplaaDoorRows
import Derived.Test.YtekbhgcnobiplaaDoorCards
import Derived.Test.YtekbhgcnobiplaaDoorTie
import Derived.Test.YtekbhgcnobiplaaDoorMkDoor
import Derived.Test.YtekbhgcnobiplaaDoorMkDoor
import Derived.Test.YtekbhgcnobiplaaDoorMkRefR
import Derived.Test.YtekbhgcnobiplaaDoorBufCls
import Derived.WalkKit
import Derived.ProofKit
import Derived.OpenShut
import Derived.ShutString
import Derived.LaidMore
import Derived.SevenTiedAt
import Derived.Stop.Joined
import Derived.RegionTactic
import Derived.BigRegion
import Derived.BigQuiet
import Derived.Deep.RegionWith
import Derived.Deep.DeepCutAuto
namespace Go.Proofs.YtekbhgcnobiplaaDoor.marksLists
open Go.ChangeShapes Go.WideShapes Go.ChangeAt Go.RowKit
open Go.ChangeMaps (open_string shut_string)
open Go.Proofs.YtekbhgcnobiplaaDoor Plain Go.BigFrame
set_option linter.unusedVariables false

theorem own : ownKnob Tryd.prog.godebug = none := by kernel_rfl
theorem laidOut : laidOutB Tryd.prog = true := by kernel_rfl
theorem cellsU : Tryd.prog.cellsOf 23 = 1 := by kernel_rfl
theorem cellsV : Tryd.prog.cellsOf 24 = 4 := by kernel_rfl
theorem eq_self (f : Nat → Bool) (w : World) : (Op.equalIn 10000 25 (SV f) (SV f)).run Tryd.prog w = .ok true w := by
  rw [eqS, eqB_of (fun _ _ => rfl)]
theorem mask8 (n : Int) : bits .and .i64 n 255 = n % 256 := by
  have h : (BitVec.ofInt 64 255).toNat = 2 ^ 8 - 1 := by decide
  have key : (BitVec.ofInt 64 n &&& BitVec.ofInt 64 255).toNat = (n % ((2 ^ 64 : Nat) : Int)).toNat % 2 ^ 8 := by
    rw [BitVec.toNat_and, BitVec.toNat_ofInt, h, Nat.and_two_pow_sub_one_eq_mod]
  show IntKind.i64.wrap ((BitVec.ofInt 64 n &&& BitVec.ofInt 64 255).toNat : Nat) = n % 256
  rw [key, IntKind.wrap_i64]
  omega
theorem IntsIn_slice {w : World} {v : Value} {l : List Int} (h : IntsIn w v l) : ∃ a b off cap, v = .slice a l.length cap ∧ l.length ≤ 9223372036854775807 ∧ (0 < l.length → a = some ⟨b, off, none⟩) ∧ l.length ≤ cap ∧ cap ≤ 9223372036854775807 ∧ ∀ i, i < l.length → w.cell? ⟨b, off + i, none⟩ = some (.int .i64 (l.getD i 0)) := by
  cases h with
  | empty a cap h => exact ⟨a, 0, 0, cap, rfl, by simp, fun h => absurd h (by simp), by simp, by unfold maxLen at h; omega, fun i hi => absurd hi (by simp)⟩
  | some b off cap l h0 h1 h2 hc => exact ⟨_, b, off, cap, rfl, by unfold maxLen at h2; omega, fun _ => rfl, h1, by unfold maxLen at h2; omega, hc⟩
theorem PairsIn_slice {w : World} {v : Value} {l : List (Nat × Nat)} (h : PairsIn w v l) : ∃ a b cap, v = .slice a l.length cap ∧ (0 < l.length → a = some ⟨b, 0, none⟩) ∧ l.length ≤ cap ∧ cap ≤ 9223372036854775807 ∧ ∀ i, i < l.length → w.cell? ⟨b, 2 * i, none⟩ = some (.int .i64 ((l.getD i (0, 0)).1 : Nat)) ∧ w.cell? ⟨b, 2 * i + 1, none⟩ = some (.int .i64 ((l.getD i (0, 0)).2 : Nat)) := by
  cases h with
  | empty a cap h => exact ⟨a, 0, cap, rfl, fun h => absurd h (by simp), by simp, by unfold maxLen at h; omega, fun i hi => absurd hi (by simp)⟩
  | some b cap l h0 h1 h2 hc => exact ⟨_, b, cap, rfl, fun _ => rfl, h1, by unfold maxLen at h2; omega, hc⟩
set_option maxRecDepth 100000 in
set_option maxHeartbeats 8000000 in
theorem walkN (f : Nat → Bool) (i : Int) (hi : i ≤ 9223372036854775807) (w : World) (hT : Tab w) : Calls Tryd.prog 5 #[SV f, .int .i64 i] w fun e w' => e = .returned (.bool true) ∧ Kp w w' := by
  have hk := mask8 i
  obtain ⟨k2, hk2⟩ : ∃ k2, bits .and .i64 i 255 = k2 := ⟨_, rfl⟩
  have hk3 : k2 ≤ 9223372036854775807 := by rw [← hk2, hk]; omega
  clear hk
  obtain ⟨w0, hw0⟩ : ∃ w0, w0 = (w.alloc (.cells (w4 (wd f)) 24)).alloc (.cells (w4 (wd f)) 25) := ⟨_, rfl⟩
  have k0 : Kp w w0 := by rw [hw0]; exact ((Kp.refl w).alloc _).alloc _
  have aF : A4 w0 w.heap.size (wd f) := by rw [hw0]; exact (A4.new w _ _).alloc _
  have aP : A4 w0 (w.heap.size + 1) (wd f) := by
    have := A4.new (w.alloc (.cells (w4 (wd f)) 24)) (wd f) 25
    rw [hw0]; simpa using this
  have HW : Hid (w0 = (w.alloc (.cells (w4 (wd f)) 24)).alloc (.cells (w4 (wd f)) 25)) := hw0
  clear hw0
  obtain ⟨c0, c1, c2, c3⟩ := aF.cells
  have hL := rlist_any f w0
  have hLa := last_any f
  unfold SV at hL hLa ⊢
  go_enter Tryd.func5, Tryd.ntmps5
  go_wp2_with fail
  rw [show (w.alloc (.cells #[.int .u64 ((wd f 0 : Nat) : Int), .int .u64 ((wd f 1 : Nat) : Int), .int .u64 ((wd f 2 : Nat) : Int), .int .u64 ((wd f 3 : Nat) : Int)] 24)).alloc (.cells #[.int .u64 ((wd f 0 : Nat) : Int), .int .u64 ((wd f 1 : Nat) : Int), .int .u64 ((wd f 2 : Nat) : Int), .int .u64 ((wd f 3 : Nat) : Int)] 25) = w0 from HW.out.symm]
  clear HW
  refine hL.mono ?_; rintro e w1 ⟨lv, rfl, hI, k1⟩
  clear hL c0 c1 c2 c3
  have aF1 := aF.kept k1
  have aP1 := aP.kept k1
  have K1 := k0.trans k1
  clear aF aP k0 k1
  obtain ⟨c0, c1, c2, c3⟩ := aP1.cells
  go_wp2_with fail
  refine (hLa _).mono ?_; rintro e w2 ⟨rfl, k2'⟩
  clear hLa c0 c1 c2 c3
  have aF2 := aF1.kept k2'
  have aP2 := aP1.kept k2'
  have K2 := K1.trans k2'
  have hI2 := hI.kept k2'
  clear aF1 aP1 K1 k2' hI
  have HI : Hid (IntsIn w2 lv ((fl 256 f).map Int.ofNat)) := hI2
  obtain ⟨a, b, off, cap, rfl, hn9, ha, hcap, hcap2, hc⟩ := IntsIn_slice hI2
  clear hI2
  obtain ⟨n, hn⟩ : ∃ n, n = ((fl 256 f).map Int.ofNat).length := ⟨_, rfl⟩
  rw [← hn] at HI hn9 ha hcap hc ⊢
  have HN : Hid (n = ((fl 256 f).map Int.ofNat).length) := hn
  clear hn
  go_upto_region 4 with fail
  go_cut [6, 7, 8, 20, 21, 23, 24, 25, 51] (fun s6 _ _ _ _ _ _ _ s wx => IntsIn wx s6 ((fl 256 f).map Int.ofNat) ∧ s = .bool false ∧ wx = w2)
  case first =>
    rcases fl_last 256 f with ⟨e1, e2⟩ | ⟨l', e1, e2⟩
    · obtain rfl : n = 0 := by rw [HN.out, e1]; rfl
      rw [e2]
      clear hc ha
      go_wp2_with fail
      go_meet
      exact ⟨HI.out, rfl, rfl⟩
    · obtain rfl : n = l'.length + 1 := by rw [HN.out, e1]; simp
      obtain rfl := ha (by omega)
      have cl := hc l'.length (by omega)
      rw [e1] at cl
      have hg : ((l' ++ [ls 256 f - 1]).map Int.ofNat).getD l'.length 0 = lI (ls 256 f) := by unfold lI; simp
      rw [hg] at cl
      have hx := fl_le 256 f
      rw [show (fl 256 f).length = l'.length + 1 by rw [e1]; simp] at hx
      obtain ⟨x, hxx⟩ : ∃ x, x = lI (ls 256 f) := ⟨_, rfl⟩
      rw [← hxx] at cl ⊢
      have hd : decide (0 < ls 256 f) = true := decide_eq_true e2
      rw [hd]
      obtain ⟨m, hm⟩ : ∃ m, m = l'.length := ⟨_, rfl⟩
      rw [← hm] at cl hcap hx HI ⊢
      clear hc ha hg e1 e2 hxx hm hd HN
      go_wp2_with fail
      go_meet
      exact ⟨HI.out, rfl, rfl⟩
  obtain ⟨HI2, rfl, hwc⟩ := hcut
  rw [hwc] at HI2 ⊢
  clear hwc hc ha hcap hcap2 HI
  obtain ⟨W0, hW0⟩ : ∃ W0, W0 = w2.alloc (.cells #[.int .i64 i, .int .i64 k2] 3) := ⟨_, rfl⟩
  have k0 : Kp w2 W0 := by rw [hW0]; exact (Kp.refl w2).alloc _
  have cs : ∀ j, j < 2 → W0.cell? ⟨w2.heap.size, j, none⟩ = some (.int .i64 (if j = 0 then i else k2)) := fun j hj => by
    rw [hW0]
    have h : j = 0 ∨ j = 1 := by omega
    rcases h with rfl | rfl
    · rw [if_pos rfl, World.cell?_alloc_at _ _ _ _ rfl]; rfl
    · rw [if_neg (by omega), World.cell?_alloc_at _ _ _ _ rfl]; rfl
  have HW : Hid (W0 = w2.alloc (.cells #[.int .i64 i, .int .i64 k2] 3)) := hW0
  clear hW0
  have aF := aF2.kept k0
  have aP := aP2.kept k0
  have K3 := K2.trans k0
  have HI := HI2.kept k0
  clear aF2 aP2 K2 HI2
  go_wp2
  rw [show w2.alloc (.cells #[.int .i64 i, .int .i64 k2] 3) = W0 from HW.out.symm]
  clear HW hk2 k0
  go_loopw [57] (fun ix wr => ∃ j : Nat, j ≤ 2 ∧ ix = .int .i64 j ∧ Kp W0 wr) (fun ix _ => 2 - (intOf ix).toNat)
  case atStart => exact ⟨0, by omega, rfl, Kp.refl W0⟩
  case round =>
    obtain ⟨j, hj, rfl, hK⟩ := hrel
    by_cases hlt : j < 2
    · have cx := hK.held (cs j hlt)
      obtain ⟨x, hx⟩ : ∃ x : Int, x = if j = 0 then i else k2 := ⟨_, rfl⟩
      have hx2 : x ≤ 9223372036854775807 := by rw [hx]; split <;> omega
      rw [← hx] at cx
      clear hx cs
      have m1 := fun W (h : Kp wr W) => next_any f x hx2 W (hT.kp ((K3.trans hK).trans h))
      have m2 := rnext_any f x
      obtain ⟨N, hN⟩ : ∃ N, N = nx f x := ⟨_, rfl⟩
      rw [← hN] at m1 m2
      clear hN
      obtain ⟨nn, hnn⟩ : ∃ nn, nn = nI N := ⟨_, rfl⟩
      obtain ⟨bb, hbb⟩ : ∃ bb, bb = decide (N < 256) := ⟨_, rfl⟩
      rw [← hnn, ← hbb] at m1 m2
      clear hnn hbb
      unfold SV at m1 m2
      have aF1 := aF.kept hK
      have aP1 := aP.kept hK
      obtain ⟨c0, c1, c2, c3⟩ := aP1.cells
      clear aF aP HI K3
      go_wp2_with fail
      refine (m1 _ (Kp.refl _)).mono ?_; rintro e w5 ⟨rfl, k5⟩
      clear c0 c1 c2 c3 m1 cx
      obtain ⟨c0, c1, c2, c3⟩ := (aF1.kept k5).cells
      go_wp2_with fail
      refine (m2 _).mono ?_; rintro e w6 ⟨rfl, k6⟩
      have HK : Hid (Kp W0 w6) := (hK.trans k5).trans k6
      clear c0 c1 c2 c3 aF1 aP1 k5 k6 hK m2
      go_wp2
      go_roundw
      case rel => exact ⟨j + 1, by omega, by go_num, HK.out⟩
      case measure => simp [intOf]; omega
    · obtain rfl : j = 2 := by omega
      clear cs
      have aF1 := aF.kept hK
      have aP1 := aP.kept hK
      have K4 := K3.trans hK
      have HI1 := HI.kept hK
      clear aF aP HI K3 hK
      obtain ⟨c0, c1, c2, c3⟩ := aP1.cells
      obtain ⟨d0, d1, d2, d3⟩ := aF1.cells
      have m1 := fun W (h : Kp wr W) => runs_any f W (hT.kp (K4.trans h))
      have m2 := rruns_any f
      unfold SV at m1 m2
      go_wp2_with fail
      go_cut [15, 16] (fun s t wx => PairsIn wx s (rn 256 f) ∧ PairsIn wx t (rn 256 f) ∧ Kp wr wx)
      case first =>
        have HC : Hid (∀ W, Kp wr W → (W.cell? ⟨w.heap.size + 1, 0, none⟩ = some (.int .u64 (wd f 0 : Nat)) ∧ W.cell? ⟨w.heap.size + 1, 1, none⟩ = some (.int .u64 (wd f 1 : Nat)) ∧ W.cell? ⟨w.heap.size + 1, 2, none⟩ = some (.int .u64 (wd f 2 : Nat)) ∧ W.cell? ⟨w.heap.size + 1, 3, none⟩ = some (.int .u64 (wd f 3 : Nat))) ∧ (W.cell? ⟨w.heap.size, 0, none⟩ = some (.int .u64 (wd f 0 : Nat)) ∧ W.cell? ⟨w.heap.size, 1, none⟩ = some (.int .u64 (wd f 1 : Nat)) ∧ W.cell? ⟨w.heap.size, 2, none⟩ = some (.int .u64 (wd f 2 : Nat)) ∧ W.cell? ⟨w.heap.size, 3, none⟩ = some (.int .u64 (wd f 3 : Nat)))) := fun W h => ⟨(aP1.kept h).cells, (aF1.kept h).cells⟩
        clear aF1 aP1 K4 HI1
        go_region_with (first
          | (go_at_call 28; refine (m1 _ (by first | exact (Kp.refl _).drew | exact (Kp.refl _).drew.trans kb)).mono ?_; rintro e wa ⟨va, rfl, hPa, ka⟩; have kA : Kp wr wa := (by first | exact (Kp.refl _).drew.trans ka | exact ((Kp.refl _).drew.trans kb).trans ka); obtain ⟨⟨x0, x1, x2, x3⟩, ⟨y0, y1, y2, y3⟩⟩ := HC.out _ kA)
          | (go_at_call 29; refine (m2 _).mono ?_; rintro e wb ⟨vb, rfl, hPb, kb⟩; have kB : Kp wr wb := (by first | exact (Kp.refl _).drew.trans kb | exact ((Kp.refl _).drew.trans ka).trans kb); obtain ⟨⟨x0, x1, x2, x3⟩, ⟨y0, y1, y2, y3⟩⟩ := HC.out _ kB))
        all_goals (go_wp2_with fail; go_meet)
        all_goals first | exact ⟨hPa, hPb.kept ka, kA⟩ | exact ⟨hPa.kept kb, hPb, kB⟩
      obtain ⟨hPa, hPb, kc⟩ := hcut
      obtain ⟨W3, hW3⟩ : ∃ W3, W3 = wc := ⟨_, rfl⟩
      rw [← hW3] at hPa hPb kc ⊢
      clear hW3 m1 m2 c0 c1 c2 c3 d0 d1 d2 d3
      have aP3 := aP1.kept kc
      have K5 := K4.trans kc
      have HI3 := HI1.kept kc
      clear aF1 aP1 K4 HI1 kc
      obtain ⟨r1, b1, cap1, rfl, hr1, hcp1, hcq1, hp1⟩ := PairsIn_slice hPa
      obtain ⟨r2, b2, cap2, rfl, hr2, hcp2, hcq2, hp2⟩ := PairsIn_slice hPb
      clear hPa hPb
      have hln := rn_len 256 f
      obtain ⟨R, hR⟩ : ∃ R, R = rn 256 f := ⟨_, rfl⟩
      rw [← hR] at hr1 hr2 hcp1 hcp2 hp1 hp2 hln ⊢
      clear hR
      obtain ⟨n, hn⟩ : ∃ n, n = R.length := ⟨_, rfl⟩
      rw [← hn] at hr1 hr2 hcp1 hcp2 hp1 hp2 hln ⊢
      clear hn
      go_wp2
      go_loopw [93] (fun ix wr => ∃ j : Nat, j ≤ n ∧ ix = .int .i64 j ∧ Kp W3 wr) (fun ix _ => n - (intOf ix).toNat)
      case atStart => exact ⟨0, by omega, rfl, Kp.refl W3⟩
      case round =>
        obtain ⟨j, hj, rfl, hK⟩ := hrel
        by_cases hlt : j < n
        · obtain rfl := hr1 (by omega)
          obtain rfl := hr2 (by omega)
          have c1 := hK.held (hp1 j hlt).1
          have c2 := hK.held (hp1 j hlt).2
          have c3 := hK.held (hp2 j hlt).1
          have c4 := hK.held (hp2 j hlt).2
          rw [show 2 * j = j * 2 by omega] at c1 c2 c3 c4
          obtain ⟨x, hx⟩ : ∃ x : Int, x = (((R.getD j (0, 0)).1 : Nat) : Int) := ⟨_, rfl⟩
          obtain ⟨y, hy⟩ : ∃ y : Int, y = (((R.getD j (0, 0)).2 : Nat) : Int) := ⟨_, rfl⟩
          rw [← hx] at c1 c3
          rw [← hy] at c2 c4
          have hq : ∀ w, (Op.equalIn 10000 47 (.agg #[.int .i64 x, .int .i64 y]) (.agg #[.int .i64 x, .int .i64 y])).run Tryd.prog w = .ok true w := fun w => by rw [eq2]; simp
          have HK : Hid (Kp W3 wr.drew) := hK.drew
          clear hx hy hp1 hp2 hr1 hr2 hK aP3 K5 HI3
          go_wp2_with fail
          go_region
          all_goals (go_wp2_with fail; go_roundw)
          all_goals first | exact ⟨j + 1, by omega, by go_num, HK.out⟩ | (simp [intOf]; omega)
        · obtain rfl : j = n := by omega
          have aP4 := aP3.kept hK
          have K6 := K5.trans hK
          have HI4 := HI3.kept hK
          clear aP3 K5 HI3 hK hp1 hp2 hr1 hr2
          have m1 := wakes_any wr (hT.kp K6)
          have m2 := fun W (h : Kp wr W) => list_any f W (hT.kp (K6.trans h))
          unfold SV at m2
          go_wp2_with fail
          refine m1.mono ?_; rintro e w7 ⟨rfl, k7⟩
          obtain ⟨c0, c1, c2, c3⟩ := (aP4.kept k7).cells
          go_wp2_with fail
          refine (m2 _ k7).mono ?_; rintro e w8 ⟨v8, rfl, hI8, k8⟩
          go_wp2_with fail
          refine (equal_any _ _ _ w8 hI8 ((HI4.kept k7).kept k8)).mono ?_; rintro e w9 ⟨rfl, k9⟩
          go_wp2
          go_ret
          exact ⟨rfl, ((K6.trans k7).trans k8).trans k9⟩
theorem walk (w : World) (hT : Tab w) (f0 : Nat → Bool) (a1 : Int) (w1 : (Lit.int .i64 a1).wf = true) :
    Calls Tryd.prog 5 #[SV f0, .int .i64 a1] w fun e w' => e = .returned (.bool true) ∧ Kp w w' := by
  have hb := bounds_i64 w1
  exact walkN f0 a1 (by omega) w hT

set_option maxRecDepth 100000 in
theorem lifted (os : Os) (started : os.Started) (H : Type) (enc : TypeId × Value → H) :
    ReturnsInHanded {} Tryd.checked os 5 .any (fun w args => (Rows.marksListsSpec.pre enc Tryd.prog Tryd.f5 [] false w args ∧ laidMetH Tryd.prog lz w) ∧ sizedMet enc Tryd.prog Tryd.f5 (OpenSpec.ofChange Rows.marksListsSpec) false w args)
      (Rows.marksListsSpec.post enc Tryd.prog Tryd.f5 false true false false) := by
  refine returnsInHanded_of_change_and (C := Tryd.checked) (X := fun w _ => laidMetH Tryd.prog lz w) (fun _ _ _ hh h => h.of_heap hh) own started (by kernel_rfl) Tryd.func5
    (ChangeSpec.witness_shaped (enc := enc) (C := Tryd.checked) (os := os) (X := fun w _ => laidMetH Tryd.prog lz w) false (World.doorLaid Tryd.prog 400 os) #[.agg #[.int .u64 0, .int .u64 0, .int .u64 0, .int .u64 0], .int .i64 0] 8 rfl (World.shaped_of_RefB (by kernel_rfl) (by kernel_rfl)) (by kernel_rfl) (by kernel_rfl) (by kernel_rfl) (door_met os _)) ?_
  intro W base args ds gs before hval0 hW hcnd _ hL _
  have hval : ∀ (j : Nat) t v, Tryd.f5.params[j]? = some t → args[j]? = some v → Value.okWide Tryd.prog W .any base t v := hval0
  have hW' := hW
  have hlt := hW.lt
  obtain ⟨p, q, hA0, hV, rfl, hfz, hnd⟩ := hW
  have hA : DataW.TrodAll enc Tryd.prog W 0 (fun _ => true) true Tryd.f5.params.toList args.toList ds p := hA0
  have hAk := hA
  rw [Tryd.params5] at hA hval
  obtain ⟨v0, vs0, d0, ds0, p0, q0, hargs, rfl, rfl, h0, r0⟩ := trodAll_cons hA
  obtain ⟨v1, vs1, d1, ds1, p1, q1, rfl, rfl, rfl, h1, r1⟩ := trodAll_cons r0
  obtain ⟨rfl, rfl, rfl⟩ := trodAll_nil r1
  obtain rfl : args = #[v0, v1] := by cases args; simp_all
  obtain ⟨rfl, rfl⟩ := trodVars_none hV
  obtain ⟨a0, b0, c0, e0, rfl, w0, x0, y0, z0⟩ := open_set4 Tryd.underlying24 Tryd.underlying23 cellsU cellsV (hval 0 24 v0 rfl rfl) h0
  obtain ⟨f0, hf0⟩ := set_value a0 b0 c0 e0 w0 x0 y0 z0
  obtain ⟨a1, rfl, rfl, rfl, w1⟩ := open_int Tryd.underlying3 (hval 1 3 v1 rfl rfl) h1
  clear hA0 hval0
  simp only [List.append_nil] at hW' hAk hlt
  have hwk := walk W (of_laid hL) f0 a1 w1
  rw [← hf0] at hwk
  refine hwk.mono fun e W' ⟨he, hg⟩ => ?_
  subst he
  exact ⟨_, rfl, post_kp (pv := []) hW' (fun _ _ _ => (trodAll_cons_mk (shut_bool Tryd.underlying4 _) trodAll_mk0)) (fun sp hsp => trodAll_stays laidOut (by rw [Tryd.params5]; exact of_decide_eq_true (by kernel_rfl)) hAk (fun x hx => Below.same hg (hlt x hx)) hsp) (fun _ _ => rfl) (by simp) hg⟩

theorem over : Rows.marksListsRow.holds Tryd.pinned (OpenSpec.ofChange Rows.marksListsSpec) :=
  OpenClaim.holds_of_wide 5 Tryd.f5 rfl rfl rfl rfl rfl rfl rfl ⟨rfl, rfl, rfl, rfl, rfl⟩ rfl rfl rfl rfl rfl (by kernel_rfl) Tryd.func5 (by kernel_rfl)
    (of_decide_eq_true (by kernel_rfl)) (by unfold Func.isWrapper; first | (rw [if_pos (by decide +kernel)]; kernel_rfl) | (rw [if_neg (by decide +kernel)]; exact ⟨rfl, rfl⟩))
    (fun os started H enc _ => lifted os started H enc)

theorem card : Claim7.holds Tryd.pinned (.plain (OpenSpec.ofChange Rows.marksListsSpec)) Rows.marksListsCard :=
  Claim7.holds_tied_plain_at .later [] [.data] true Rows.marksListsCard.stood.harness false
    over (fun _ h => by cases h) (by kernel_rfl) (fun _ h => by cases h) marksLists_row_tie rfl ⟨rfl, rfl⟩ (by kernel_rfl) rfl
    (fun f fn hf hfn => by
      have e : some f = some 5 := hf.symm.trans (by kernel_rfl)
      obtain rfl := Option.some.inj e
      obtain rfl : fn = Tryd.f5 := (Option.some.inj (Tryd.func5.symm.trans hfn)).symm
      exact ⟨by kernel_rfl, fun j t ht => by
        rw [Tryd.params5] at ht
        have hm : t ∈ [24, 3] := by simpa using Array.mem_of_getElem? ht
        have hall : ([24, 3].all fun u => !Tryd.prog.wantsStandIn u) = true := by kernel_rfl
        exact (show Tryd.prog.wantsStandIn t = false by simpa using List.all_eq_true.1 hall t hm)⟩)
    (by kernel_rfl)

end Go.Proofs.YtekbhgcnobiplaaDoor.marksLists
namespace Go.Proofs.YtekbhgcnobiplaaDoor
theorem marksLists_holds : Rows.MarksListsCardSaid := marksLists.card
end Go.Proofs.YtekbhgcnobiplaaDoor
