/-
  MemberAll (P10.1, P10.2): a crash that keeps all is as a Flush; one that keeps none as if nothing had been written since. No condition.
-/
import Derived.Test.YtohakbhjkhhcaaaRows
import Derived.Test.YtohakbhjkhhcaaaBufArgs
import Derived.Test.YtohakbhjkhhcaaaMmTri
import Derived.WalkKit
import Derived.ProofKit
import Derived.OpenShut
import Derived.ShutString
import Derived.Deep.QuietTactic
import Derived.BigQuiet
import Derived.Deep.RegionWith
import Derived.Deep.RegionHeld3
import Derived.Deep.DeepCutAuto
import Derived.Deep.CutBlock
namespace Go.Proofs.Ytohakbhjkhhcaaa.memberAll
open Go.ChangeShapes Go.WideShapes Go.ChangeAt Go.RowKit
open Go.ChangeMaps (open_string shut_string)
open Go.Proofs.Ytohakbhjkhhcaaa Plain
set_option linter.unusedVariables false

theorem own : ownKnob Try.prog.godebug = none := by kernel_rfl
theorem laidOut : laidOutB Try.prog = true := by kernel_rfl
set_option maxRecDepth 100000 in
set_option maxHeartbeats 4000000 in
theorem walkN (w : World) (v1 : Value) (l1 : List AC) (v2 : Value) (l2 : List AC) (i1 : ActsIn w v1 l1) (i2 : ActsIn w v2 l2) :
    Calls Try.prog 5 #[v1, v2] w fun e w' => e = .returned (.bool true) ∧ Kp w w' := by
  obtain ⟨q1, cap1, rfl, p1, p2, z1_⟩ := i1.h
  obtain ⟨q2, cap2, rfl, p3, p4, z2_⟩ := i2.h
  clear z1_ z2_
  obtain ⟨n1, hn1⟩ : ∃ n1, n1 = l1.length := ⟨_, rfl⟩
  obtain ⟨n2, hn2⟩ : ∃ n2, n2 = l2.length := ⟨_, rfl⟩
  rw [← hn1] at i1 p1 ⊢
  rw [← hn2] at i2 p3 ⊢
  have I1 := hid i1
  have I2 := hid i2
  have N1 := hid hn1
  have N2 := hid hn2
  clear i1 i2 hn1 hn2
  have hmin := @imin Try.prog
  obtain ⟨m1, e1⟩ : ∃ m : Nat, min (n1 : Int) 30 = (m : Int) := ⟨min n1 30, by omega⟩
  obtain ⟨m2, e2⟩ : ∃ m : Nat, min (n2 : Int) 100 = (m : Int) := ⟨min n2 100, by omega⟩
  have hm1 : m1 ≤ n1 := by omega
  have hm2 : m2 ≤ n2 := by omega
  have hm3 : m1 ≤ 30 := by omega
  have hm4 : m2 ≤ 100 := by omega
  go_enter Try.func5, Try.ntmps5
  go_wp2_with fail
  refine (ow_new 16 w w (Kp.refl w)).mono ?_
  rintro e u1 ⟨x, P, rfl, o1, k1, _⟩
  go_wp2_with fail
  refine (ow_new 16 w u1 k1).mono ?_
  rintro e u2 ⟨y, Q, rfl, o2, k2, t2⟩
  go_wp2_with fail
  refine (ow_new 16 w u2 (k1.trans k2)).mono ?_
  rintro e u3 ⟨z, R, rfl, o3, k3, t3⟩
  have tri : Tri w u3 (P ++ (Q ++ R)) x y z (nw (nwN 16)) (nw (nwN 16)) (nw (nwN 16)) := ⟨P, Q, R, rfl, (o1.kp k2).kp k3, o2.kp k3, o3,
    fun t h1 h2 => (by have := o1.low t h1; have := t2 t h2; omega), fun t h1 h2 => (by have := o1.low t h1; have := t3 t h2; have := k2.size; omega), fun t h1 h2 => (by have := o2.low t h1; have := t3 t h2; omega)⟩
  have ku := (k1.trans k2).trans k3
  clear o1 o2 o3 k1 k2 k3 t2 t3
  obtain ⟨N, hN⟩ : ∃ N, N = nw (nwN 16) := ⟨_, rfl⟩
  rw [← hN] at tri
  have HN := hid hN
  have HR0 : Hid (N.row.length = 0) := by rw [hN]; rfl
  clear hN
  go_wp2_with fail
  refine (wakes_any u3).mono ?_
  rintro e W ⟨rfl, kW⟩
  have HTri := hid (tri.kp kW)
  have HKW := hid (ku.trans kW)
  have HTW := hid tri.new
  obtain ⟨T, hT⟩ : ∃ T, T = P ++ (Q ++ R) := ⟨_, rfl⟩
  rw [← hT] at HTri HTW
  clear tri ku kW hT
  go_wp2_with fail
  go_loopw [36] (fun i wr => ∃ k : Nat, k ≤ m1 ∧ i = .int .i64 k ∧ Hid (Tx w W T x y z (wrs N (l1.take k)) (wrs N (l1.take k)) (wrs N (l1.take k)) wr)) (fun i _ => m1 - (intOf i).toNat)
  case atStart => exact ⟨0, by omega, by go_num, Tx.refl HTri.out⟩
  case round =>
    obtain ⟨k, hk, rfl, HX⟩ := hrel
    by_cases hlt : k < m1
    · skip
      have hkn : k < n1 := by omega
      have hks : k < l1.length := by rw [← N1.out]; exact hkn
      have KR := HX.out.below HKW.out HTW.out
      obtain ⟨qa, qc, eq, z1_, z2_, hq⟩ := (I1.out.kp KR).take m1 (by rw [← N1.out]; exact hm1)
      obtain ⟨g, off, hqq, hrg⟩ := hq (by omega)
      simp only [Value.slice.injEq] at eq
      obtain rfl : q1 = some ⟨g, off, none⟩ := eq.1.trans hqq
      obtain ⟨f0, f1, f2, f3, f4⟩ := acs_cells (hrg k hlt)
      have fok := (I1.out.kp KR).ok k hks
      obtain ⟨a_, ha_⟩ : ∃ a_, a_ = l1.getD k noA := ⟨_, rfl⟩
      rw [← ha_] at f0 f1 f2 f3 f4 fok
      have HA := hid ha_
      obtain ⟨op_, k_, d_, o_, kv_, ks_⟩ := a_
      simp only at f0 f1 f2 f3 f4
      have hd8 : d_ < 256 := fok.d
      obtain ⟨va, vc, hva, z3_⟩ := fok.k.h
      simp only at hva
      subst hva
      obtain ⟨vn, hvn⟩ : ∃ vn, vn = ks_.length := ⟨_, rfl⟩
      rw [← hvn] at f4 HA
      clear ha_ eq hqq hrg fok z1_ z2_ hq z3_ hvn
      have hwr := wrs_take N l1 k hks
      rw [← HA.out] at hwr
      simp only at hwr
      have hrl := (wrs_row (l1.take k) N).1
      rw [List.length_take, HR0.out] at hrl
      obtain ⟨S, hS⟩ : ∃ S, S = wrs N (l1.take k) := ⟨_, rfl⟩
      rw [← hS] at hwr HX hrl
      obtain ⟨S', hS'⟩ : ∃ S', S' = wrs N (l1.take (k + 1)) := ⟨_, rfl⟩
      rw [← hS'] at hwr
      have HS' := hid hS'
      obtain ⟨sX, hsX⟩ : ∃ sX, sX = scS d_ false := ⟨_, rfl⟩
      rw [← hsX] at hwr
      have HWR := hid hwr
      have HSX : Hid (∀ V, Calls Try.prog 15 #[.int .u8 (d_ : Int), .bool false] V fun e V' => e = .returned (.string sX) ∧ Kp V V') := by rw [hsX]; exact sector_any d_ hd8 false
      have HR1 : Hid (S.row.length < 1000000) := by show _ < _; omega
      clear hS hS' hsX hwr HA hrl
      go_wp2_with fail
      refine wp_loop_rounds 4 ?_
      rw [rounds_succ]
      obtain ⟨T1, tri1, sp1, nw1⟩ := HX.out
      obtain ⟨K, hK⟩ : ∃ K, K = wr.heap.size := ⟨_, rfl⟩
      obtain ⟨Wb, hWb⟩ : ∃ Wb, Wb = wr.alloc (.cells #[.int .i64 op_, .int .i64 k_, .int .u8 (d_ : Int), .bool o_, .slice va vn vc] 31) := ⟨_, rfl⟩
      obtain ⟨W1, hW1⟩ : ∃ W1, W1 = Wb.alloc (.cells #[.pointer (some ⟨x, 0, none⟩), .pointer (some ⟨y, 0, none⟩), .pointer (some ⟨z, 0, none⟩)] 23) := ⟨_, rfl⟩
      have hG : Wb.heap.size = wr.heap.size + 1 := by rw [hWb]; simp
      rw [← hWb, ← hW1]
      have kb : Kp wr Wb := by rw [hWb]; exact (Kp.refl wr).alloc _
      have kg : Kp Wb W1 := by rw [hW1]; exact (Kp.refl Wb).alloc _
      have HC1 : Hid (W1.cell? ⟨K, 1, none⟩ = some (.int .i64 k_)) := kg.held (by rw [hWb, World.cell?_alloc_at _ _ _ _ hK]; rfl)
      have HC2 : Hid (W1.cell? ⟨K, 2, none⟩ = some (.int .u8 (d_ : Int))) := kg.held (by rw [hWb, World.cell?_alloc_at _ _ _ _ hK]; rfl)
      obtain ⟨G, hGG⟩ : ∃ G, G = wr.heap.size + 1 := ⟨_, rfl⟩
      rw [← hGG, ← hK]
      have g0 : W1.cell? ⟨G, 0, none⟩ = some (.pointer (some ⟨x, 0, none⟩)) := by rw [hW1, World.cell?_alloc_at _ _ _ _ (by omega)]; rfl
      have g1 : W1.cell? ⟨G, 1, none⟩ = some (.pointer (some ⟨y, 0, none⟩)) := by rw [hW1, World.cell?_alloc_at _ _ _ _ (by omega)]; rfl
      have g2 : W1.cell? ⟨G, 2, none⟩ = some (.pointer (some ⟨z, 0, none⟩)) := by rw [hW1, World.cell?_alloc_at _ _ _ _ (by omega)]; rfl
      have hKT : Hid (K ∉ T1) := fun hm => by have := tri1.low K hm; omega
      have hGT : Hid (G ∉ T1) := fun hm => by have := tri1.low G hm; omega
      have k1 := kb.trans kg
      have HK1 := hid (KR.trans k1)
      have HT1 := hid tri1.new
      have SP1 := hid (sp1.trans (k1.sp T))
      have NW1 := hid nw1
      have x0 := Tx.refl (tri1.kp k1)
      clear hWb hW1 hG kb kg hK hGG k1 sp1 nw1 tri1 f0 f1 f2 f3 f4 HX KR
      go_wp2_with fail
      have c15 : ∀ V, Tx w W1 T1 x y z S S S V → Calls Try.prog 15 #[.int .u8 (d_ : Int), .bool false] V fun e V' => e = .returned (.string sX) ∧ Tx w W1 T1 x y z S S S V' := fun V k => (HSX.out V).mono fun e V' ⟨he, k'⟩ => ⟨he, k.kp k'⟩
      have c14 : ∀ V, Tx w W1 T1 x y z S S S V → Calls Try.prog 14 #[.pointer (some ⟨x, 0, none⟩), .int .i64 k_, .string sX] V fun e V' => e = .returned (.int .i64 (wrE S k_ sX)) ∧ Tx w W1 T1 x y z S' S S V' := fun V k => by
        have := Tx.first HK1.out HT1.out k (fun P o K => ow_write o K k_ sX (by have := HR1.out; omega))
        rw [← HWR.out] at this
        exact this
      have hS1 : ∀ V, Tx w W1 T1 x y z S S S V → V.cell? ⟨K, 1, none⟩ = some (.int .i64 k_) ∧ V.cell? ⟨K, 2, none⟩ = some (.int .u8 (d_ : Int)) := fun V k => ⟨k.held HC1.out hKT.out, k.held HC2.out hKT.out⟩
      have hS2 : ∀ V, Tx w W1 T1 x y z S' S S V → V.cell? ⟨K, 1, none⟩ = some (.int .i64 k_) ∧ V.cell? ⟨K, 2, none⟩ = some (.int .u8 (d_ : Int)) := fun V k => ⟨k.held HC1.out hKT.out, k.held HC2.out hKT.out⟩
      have hr0 := x0.kp (Kp.refl _).drew
      go_wp2_with fail
      go_region_held3 (fun V => V.cell? ⟨K, 1, none⟩ = some (.int .i64 k_) ∧ V.cell? ⟨K, 2, none⟩ = some (.int .u8 (d_ : Int))) (first | exact hS1 _ (by assumption) | exact hS2 _ (by assumption)) (first
        | (go_at_call 15; refine (c15 _ (by assumption)).mono ?_; rintro e w0a ⟨rfl, h0a⟩)
        | (go_at_call 14; refine (c14 _ (by assumption)).mono ?_; rintro e w0b ⟨rfl, x1⟩))
      clear c15 c14 hS1 hS2 hr0 x0 h0a
      have g1' := x1.held g1 hGT.out
      go_wp2_with fail
      rw [rounds_succ]
      go_wp2_with fail
      clear g1'
      have c15 : ∀ V, Tx w W1 T1 x y z S' S S V → Calls Try.prog 15 #[.int .u8 (d_ : Int), .bool false] V fun e V' => e = .returned (.string sX) ∧ Tx w W1 T1 x y z S' S S V' := fun V k => (HSX.out V).mono fun e V' ⟨he, k'⟩ => ⟨he, k.kp k'⟩
      have c14 : ∀ V, Tx w W1 T1 x y z S' S S V → Calls Try.prog 14 #[.pointer (some ⟨y, 0, none⟩), .int .i64 k_, .string sX] V fun e V' => e = .returned (.int .i64 (wrE S k_ sX)) ∧ Tx w W1 T1 x y z S' S' S V' := fun V k => by
        have := Tx.second HK1.out HT1.out k (fun P o K => ow_write o K k_ sX (by have := HR1.out; omega))
        rw [← HWR.out] at this
        exact this
      have hS1 : ∀ V, Tx w W1 T1 x y z S' S S V → V.cell? ⟨K, 1, none⟩ = some (.int .i64 k_) ∧ V.cell? ⟨K, 2, none⟩ = some (.int .u8 (d_ : Int)) := fun V k => ⟨k.held HC1.out hKT.out, k.held HC2.out hKT.out⟩
      have hS2 : ∀ V, Tx w W1 T1 x y z S' S' S V → V.cell? ⟨K, 1, none⟩ = some (.int .i64 k_) ∧ V.cell? ⟨K, 2, none⟩ = some (.int .u8 (d_ : Int)) := fun V k => ⟨k.held HC1.out hKT.out, k.held HC2.out hKT.out⟩
      have hr0 := x1.kp (Kp.refl _).drew
      go_wp2_with fail
      go_region_held3 (fun V => V.cell? ⟨K, 1, none⟩ = some (.int .i64 k_) ∧ V.cell? ⟨K, 2, none⟩ = some (.int .u8 (d_ : Int))) (first | exact hS1 _ (by assumption) | exact hS2 _ (by assumption)) (first
        | (go_at_call 15; refine (c15 _ (by assumption)).mono ?_; rintro e w1a ⟨rfl, h1a⟩)
        | (go_at_call 14; refine (c14 _ (by assumption)).mono ?_; rintro e w1b ⟨rfl, x2⟩))
      clear c15 c14 hS1 hS2 hr0 x1 h1a
      have g2' := x2.held g2 hGT.out
      go_wp2_with fail
      rw [rounds_succ]
      go_wp2_with fail
      clear g2'
      have c15 : ∀ V, Tx w W1 T1 x y z S' S' S V → Calls Try.prog 15 #[.int .u8 (d_ : Int), .bool false] V fun e V' => e = .returned (.string sX) ∧ Tx w W1 T1 x y z S' S' S V' := fun V k => (HSX.out V).mono fun e V' ⟨he, k'⟩ => ⟨he, k.kp k'⟩
      have c14 : ∀ V, Tx w W1 T1 x y z S' S' S V → Calls Try.prog 14 #[.pointer (some ⟨z, 0, none⟩), .int .i64 k_, .string sX] V fun e V' => e = .returned (.int .i64 (wrE S k_ sX)) ∧ Tx w W1 T1 x y z S' S' S' V' := fun V k => by
        have := Tx.third HK1.out HT1.out k (fun P o K => ow_write o K k_ sX (by have := HR1.out; omega))
        rw [← HWR.out] at this
        exact this
      have hS1 : ∀ V, Tx w W1 T1 x y z S' S' S V → V.cell? ⟨K, 1, none⟩ = some (.int .i64 k_) ∧ V.cell? ⟨K, 2, none⟩ = some (.int .u8 (d_ : Int)) := fun V k => ⟨k.held HC1.out hKT.out, k.held HC2.out hKT.out⟩
      have hS2 : ∀ V, Tx w W1 T1 x y z S' S' S' V → V.cell? ⟨K, 1, none⟩ = some (.int .i64 k_) ∧ V.cell? ⟨K, 2, none⟩ = some (.int .u8 (d_ : Int)) := fun V k => ⟨k.held HC1.out hKT.out, k.held HC2.out hKT.out⟩
      have hr0 := x2.kp (Kp.refl _).drew
      go_wp2_with fail
      go_region_held3 (fun V => V.cell? ⟨K, 1, none⟩ = some (.int .i64 k_) ∧ V.cell? ⟨K, 2, none⟩ = some (.int .u8 (d_ : Int))) (first | exact hS1 _ (by assumption) | exact hS2 _ (by assumption)) (first
        | (go_at_call 15; refine (c15 _ (by assumption)).mono ?_; rintro e w2a ⟨rfl, h2a⟩)
        | (go_at_call 14; refine (c14 _ (by assumption)).mono ?_; rintro e w2b ⟨rfl, x3⟩))
      clear c15 c14 hS1 hS2 hr0 x2 h2a
      have HX2 := hid (Tx.trans SP1.out NW1.out x3)
      rw [HS'.out] at HX2
      clear x3 g0 g1 g2 HC1 HC2 hKT hGT HK1 HT1 SP1 NW1 HSX HWR HR1 HS'
      go_wp2_with fail
      rw [rounds_succ]
      go_wp2
      go_roundw
      case rel => exact ⟨k + 1, by omega, by go_num, HX2⟩
      case measure => simp [intOf]; omega
    · obtain rfl : k = m1 := by omega
      have KR := HX.out.below HKW.out HTW.out
      have hr1 := (wrs_row (l1.take k) N)
      rw [List.length_take, HR0.out] at hr1
      have hri := wrs_right (l1.take k) N (by rw [HN.out]; exact Right.nw _)
      obtain ⟨F, hF⟩ : ∃ F, F = wrs N (l1.take k) := ⟨_, rfl⟩
      rw [← hF] at hr1 hri HX
      have hFd : F.dead = false := hr1.2.1.trans (by rw [HN.out]; rfl)
      have hFl : F.las.length = 16 := by rw [hr1.2.2, HN.out]; rfl
      obtain ⟨w1_, w2_, w3_, w4_, w5_, w6_⟩ := fl_facts hri hFd
      rw [hFl] at w5_
      obtain ⟨F2, hF2⟩ : ∃ F2, F2 = fl F := ⟨_, rfl⟩
      rw [← hF2] at w1_ w2_ w3_ w4_ w5_
      have HF2 := hid hF2
      have FF := hid (And.intro w1_ (And.intro w2_ (And.intro w3_ (And.intro w4_ w5_))))
      clear hF hF2 hr1 hri hFd hFl w1_ w2_ w3_ w4_ w5_ w6_ HR0
      go_wp2_with fail
      refine wp_loop_rounds 4 ?_
      rw [rounds_succ]
      obtain ⟨T1, tri1, sp1, nw1⟩ := HX.out
      obtain ⟨W1, hW1⟩ : ∃ W1, W1 = wr.alloc (.cells #[.pointer (some ⟨x, 0, none⟩), .pointer (some ⟨y, 0, none⟩), .pointer (some ⟨z, 0, none⟩)] 23) := ⟨_, rfl⟩
      obtain ⟨G, hGG⟩ : ∃ G, G = wr.heap.size := ⟨_, rfl⟩
      rw [← hW1, ← hGG]
      have k1 : Kp wr W1 := by rw [hW1]; exact (Kp.refl wr).alloc _
      have g0 : W1.cell? ⟨G, 0, none⟩ = some (.pointer (some ⟨x, 0, none⟩)) := by rw [hW1, World.cell?_alloc_at _ _ _ _ hGG]; rfl
      have g1 : W1.cell? ⟨G, 1, none⟩ = some (.pointer (some ⟨y, 0, none⟩)) := by rw [hW1, World.cell?_alloc_at _ _ _ _ hGG]; rfl
      have g2 : W1.cell? ⟨G, 2, none⟩ = some (.pointer (some ⟨z, 0, none⟩)) := by rw [hW1, World.cell?_alloc_at _ _ _ _ hGG]; rfl
      have hGT : Hid (G ∉ T1) := fun hm => by have := tri1.low G hm; omega
      have HK1 := hid (KR.trans k1)
      have HT1 := hid tri1.new
      have SP1 := hid (sp1.trans (k1.sp T))
      have NW1 := hid nw1
      have x0 := Tx.refl (tri1.kp k1)
      clear hW1 hGG k1 sp1 nw1 tri1 HX KR
      go_wp2_with fail
      refine (Tx.first HK1.out HT1.out x0 (fun P o K => ow_flush o K)).mono ?_
      rintro e v1_ ⟨rfl, x1⟩
      rw [← HF2.out] at x1
      have g1' := x1.held g1 hGT.out
      clear x0
      go_wp2_with fail
      rw [rounds_succ]
      go_wp2_with fail
      refine (Tx.second HK1.out HT1.out x1 (fun P o K => ow_flush o K)).mono ?_
      rintro e v2_ ⟨rfl, x2⟩
      rw [← HF2.out] at x2
      have g2' := x2.held g2 hGT.out
      clear x1 g1'
      go_wp2_with fail
      rw [rounds_succ]
      go_wp2_with fail
      refine (Tx.third HK1.out HT1.out x2 (fun P o K => ow_flush o K)).mono ?_
      rintro e v3_ ⟨rfl, x3⟩
      rw [← HF2.out] at x3
      have HX3 := hid (Tx.trans SP1.out NW1.out x3)
      clear x2 g2' x3 g0 g1 g2 hGT HK1 HT1 SP1 NW1 HF2
      go_wp2_with fail
      rw [rounds_succ]
      go_wp2_with fail
      have HR0 : Hid (F2.row.length = 0) := by rw [FF.out.2.2.1]; rfl
      go_loopw [76] (fun i wr => ∃ k : Nat, k ≤ m2 ∧ i = .int .i64 k ∧ Hid (Tx w W T x y z (wrs F2 (l2.take k)) (wrs F2 (l2.take k)) F2 wr)) (fun i _ => m2 - (intOf i).toNat)
      case atStart => exact ⟨0, by omega, by go_num, HX3⟩
      case round =>
        clear HX3 HTri
        obtain ⟨k, hk, rfl, HX⟩ := hrel
        by_cases hlt : k < m2
        · skip
          have hkn : k < n2 := by omega
          have hks : k < l2.length := by rw [← N2.out]; exact hkn
          have KR := HX.out.below HKW.out HTW.out
          obtain ⟨qa, qc, eq, z1_, z2_, hq⟩ := (I2.out.kp KR).take m2 (by rw [← N2.out]; exact hm2)
          obtain ⟨g, off, hqq, hrg⟩ := hq (by omega)
          simp only [Value.slice.injEq] at eq
          obtain rfl : q2 = some ⟨g, off, none⟩ := eq.1.trans hqq
          obtain ⟨f0, f1, f2, f3, f4⟩ := acs_cells (hrg k hlt)
          have fok := (I2.out.kp KR).ok k hks
          obtain ⟨a_, ha_⟩ : ∃ a_, a_ = l2.getD k noA := ⟨_, rfl⟩
          rw [← ha_] at f0 f1 f2 f3 f4 fok
          have HA := hid ha_
          obtain ⟨op_, k_, d_, o_, kv_, ks_⟩ := a_
          simp only at f0 f1 f2 f3 f4
          have hd8 : d_ < 256 := fok.d
          obtain ⟨va, vc, hva, z3_⟩ := fok.k.h
          simp only at hva
          subst hva
          obtain ⟨vn, hvn⟩ : ∃ vn, vn = ks_.length := ⟨_, rfl⟩
          rw [← hvn] at f4 HA
          clear ha_ eq hqq hrg fok z1_ z2_ hq z3_ hvn
          have hwr := wrs_take F2 l2 k hks
          rw [← HA.out] at hwr
          simp only at hwr
          have hrl := (wrs_row (l2.take k) F2).1
          rw [List.length_take, HR0.out] at hrl
          obtain ⟨S, hS⟩ : ∃ S, S = wrs F2 (l2.take k) := ⟨_, rfl⟩
          rw [← hS] at hwr HX hrl
          obtain ⟨S', hS'⟩ : ∃ S', S' = wrs F2 (l2.take (k + 1)) := ⟨_, rfl⟩
          rw [← hS'] at hwr
          have HS' := hid hS'
          obtain ⟨sX, hsX⟩ : ∃ sX, sX = scS d_ false := ⟨_, rfl⟩
          rw [← hsX] at hwr
          have HWR := hid hwr
          have HSX : Hid (∀ V, Calls Try.prog 15 #[.int .u8 (d_ : Int), .bool false] V fun e V' => e = .returned (.string sX) ∧ Kp V V') := by rw [hsX]; exact sector_any d_ hd8 false
          have HR1 : Hid (S.row.length < 1000000) := by show _ < _; omega
          clear hS hS' hsX hwr HA hrl
          go_wp2_with fail
          obtain ⟨T1, tri1, sp1, nw1⟩ := HX.out
          obtain ⟨K, hK⟩ : ∃ K, K = wr.heap.size := ⟨_, rfl⟩
          obtain ⟨W1, hW1⟩ : ∃ W1, W1 = wr.alloc (.cells #[.int .i64 op_, .int .i64 k_, .int .u8 (d_ : Int), .bool o_, .slice va vn vc] 31) := ⟨_, rfl⟩
          rw [← hW1, ← hK]
          have k1 : Kp wr W1 := by rw [hW1]; exact (Kp.refl wr).alloc _
          have HC1 : Hid (W1.cell? ⟨K, 1, none⟩ = some (.int .i64 k_)) := by rw [hW1, World.cell?_alloc_at _ _ _ _ hK]; rfl
          have HC2 : Hid (W1.cell? ⟨K, 2, none⟩ = some (.int .u8 (d_ : Int))) := by rw [hW1, World.cell?_alloc_at _ _ _ _ hK]; rfl
          have hKT : Hid (K ∉ T1) := fun hm => by have := tri1.low K hm; omega
          have HK1 := hid (KR.trans k1)
          have HT1 := hid tri1.new
          have SP1 := hid (sp1.trans (k1.sp T))
          have NW1 := hid nw1
          have x0 := Tx.refl (tri1.kp k1)
          clear hW1 hK k1 sp1 nw1 tri1 f0 f1 f2 f3 f4 HX KR
          have c15 : ∀ V, Tx w W1 T1 x y z S S F2 V → Calls Try.prog 15 #[.int .u8 (d_ : Int), .bool false] V fun e V' => e = .returned (.string sX) ∧ Tx w W1 T1 x y z S S F2 V' := fun V k => (HSX.out V).mono fun e V' ⟨he, k'⟩ => ⟨he, k.kp k'⟩
          have c14 : ∀ V, Tx w W1 T1 x y z S S F2 V → Calls Try.prog 14 #[.pointer (some ⟨x, 0, none⟩), .int .i64 k_, .string sX] V fun e V' => e = .returned (.int .i64 (wrE S k_ sX)) ∧ Tx w W1 T1 x y z S' S F2 V' := fun V k => by
            have := Tx.first HK1.out HT1.out k (fun P o K => ow_write o K k_ sX (by have := HR1.out; omega))
            rw [← HWR.out] at this
            exact this
          have hS1 : ∀ V, Tx w W1 T1 x y z S S F2 V → V.cell? ⟨K, 1, none⟩ = some (.int .i64 k_) ∧ V.cell? ⟨K, 2, none⟩ = some (.int .u8 (d_ : Int)) := fun V k => ⟨k.held HC1.out hKT.out, k.held HC2.out hKT.out⟩
          have hS2 : ∀ V, Tx w W1 T1 x y z S' S F2 V → V.cell? ⟨K, 1, none⟩ = some (.int .i64 k_) ∧ V.cell? ⟨K, 2, none⟩ = some (.int .u8 (d_ : Int)) := fun V k => ⟨k.held HC1.out hKT.out, k.held HC2.out hKT.out⟩
          have hr0 := x0.kp (Kp.refl _).drew
          go_wp2_with fail
          go_region_held3 (fun V => V.cell? ⟨K, 1, none⟩ = some (.int .i64 k_) ∧ V.cell? ⟨K, 2, none⟩ = some (.int .u8 (d_ : Int))) (first | exact hS1 _ (by assumption) | exact hS2 _ (by assumption)) (first
            | (go_at_call 15; refine (c15 _ (by assumption)).mono ?_; rintro e w0a ⟨rfl, h0a⟩)
            | (go_at_call 14; refine (c14 _ (by assumption)).mono ?_; rintro e w0b ⟨rfl, x1⟩))
          clear c15 c14 hS1 hS2 hr0 x0 h0a
          have c15 : ∀ V, Tx w W1 T1 x y z S' S F2 V → Calls Try.prog 15 #[.int .u8 (d_ : Int), .bool false] V fun e V' => e = .returned (.string sX) ∧ Tx w W1 T1 x y z S' S F2 V' := fun V k => (HSX.out V).mono fun e V' ⟨he, k'⟩ => ⟨he, k.kp k'⟩
          have c14 : ∀ V, Tx w W1 T1 x y z S' S F2 V → Calls Try.prog 14 #[.pointer (some ⟨y, 0, none⟩), .int .i64 k_, .string sX] V fun e V' => e = .returned (.int .i64 (wrE S k_ sX)) ∧ Tx w W1 T1 x y z S' S' F2 V' := fun V k => by
            have := Tx.second HK1.out HT1.out k (fun P o K => ow_write o K k_ sX (by have := HR1.out; omega))
            rw [← HWR.out] at this
            exact this
          have hS1 : ∀ V, Tx w W1 T1 x y z S' S F2 V → V.cell? ⟨K, 1, none⟩ = some (.int .i64 k_) ∧ V.cell? ⟨K, 2, none⟩ = some (.int .u8 (d_ : Int)) := fun V k => ⟨k.held HC1.out hKT.out, k.held HC2.out hKT.out⟩
          have hS2 : ∀ V, Tx w W1 T1 x y z S' S' F2 V → V.cell? ⟨K, 1, none⟩ = some (.int .i64 k_) ∧ V.cell? ⟨K, 2, none⟩ = some (.int .u8 (d_ : Int)) := fun V k => ⟨k.held HC1.out hKT.out, k.held HC2.out hKT.out⟩
          have hr0 := x1.kp (Kp.refl _).drew
          go_wp2_with fail
          go_region_held3 (fun V => V.cell? ⟨K, 1, none⟩ = some (.int .i64 k_) ∧ V.cell? ⟨K, 2, none⟩ = some (.int .u8 (d_ : Int))) (first | exact hS1 _ (by assumption) | exact hS2 _ (by assumption)) (first
            | (go_at_call 15; refine (c15 _ (by assumption)).mono ?_; rintro e w1a ⟨rfl, h1a⟩)
            | (go_at_call 14; refine (c14 _ (by assumption)).mono ?_; rintro e w1b ⟨rfl, x2⟩))
          clear c15 c14 hS1 hS2 hr0 x1 h1a
          have HX2 := hid (Tx.trans SP1.out NW1.out x2)
          rw [HS'.out] at HX2
          clear x2 HC1 HC2 hKT HK1 HT1 SP1 NW1 HSX HWR HR1 HS'
          go_wp2
          go_roundw
          case rel => exact ⟨k + 1, by omega, by go_num, HX2⟩
          case measure => simp [intOf]; omega
        · obtain rfl : k = m2 := by omega
          have KR := HX.out.below HKW.out HTW.out
          have hr1 := (wrs_row (l2.take k) F2)
          rw [List.length_take, HR0.out] at hr1
          have hri := wrs_right (l2.take k) F2 FF.out.1
          obtain ⟨E, hE⟩ : ∃ E, E = wrs F2 (l2.take k) := ⟨_, rfl⟩
          rw [← hE] at hr1 hri HX
          have hEd : E.dead = false := hr1.2.1.trans FF.out.2.1
          have hEl : E.las.length = 16 := by rw [hr1.2.2]; exact FF.out.2.2.2.2
          have EE := hid (And.intro hri (And.intro hEd (And.intro hr1.2.2 (And.intro hEl (show E.row.length ≤ 100 by omega)))))
          clear hE hr1 hri hEd hEl HR0 hmin e1 e2
          go_wp2_with fail
          obtain ⟨T1, tri1, sp1, nw1⟩ := HX.out
          obtain ⟨A, hA⟩ : ∃ A, A = wr.heap.size := ⟨_, rfl⟩
          obtain ⟨W5, hW5⟩ : ∃ W5, W5 = wr.alloc (.cells #[.string { data := #[] }, .string { data := #[] }, .string { data := #[] }, .string { data := #[] }, .string { data := #[] }, .string { data := #[] }, .string { data := #[] }, .string { data := #[] }, .string { data := #[] }, .string { data := #[] }, .string { data := #[] }, .string { data := #[] }, .string { data := #[] }, .string { data := #[] }, .string { data := #[] }, .string { data := #[] }] 53) := ⟨_, rfl⟩
          rw [← hW5, ← hA]
          have k5 : Kp wr W5 := by rw [hW5]; exact (Kp.refl wr).alloc _
          have ar5 : Ar W5 A 0 (fun j => E.now.getD j noS) := ⟨fun j hj => by omega, by rw [hW5, hA]; exact there_new _ _ _ _ rfl⟩
          have hAT : A ∉ T1 := fun hm => by have := tri1.low A hm; omega
          have hAl : A < W5.heap.size := by rw [hW5, hA]; simp
          have hAw : w.heap.size ≤ A := by rw [hA]; exact KR.size
          have HI5 := hid (And.intro (tri1.kp k5) (And.intro (Alk.refl E) (And.intro (KR.trans k5) (And.intro hAT (And.intro ar5 hAl)))))
          clear hW5 hA k5 ar5 hAT hAl sp1 nw1 tri1 HX KR
          go_loopw [95] (fun i wr => ∃ (k : Nat) (T1 : List Nat) (Eb : MS), k ≤ 16 ∧ i = .int .i64 k ∧ Hid (Tri w wr T1 x y z E Eb F2 ∧ Alk Eb E ∧ Kp w wr ∧ A ∉ T1 ∧ Ar wr A k (fun j => E.now.getD j noS) ∧ A < wr.heap.size)) (fun i _ => 16 - (intOf i).toNat)
          case atStart => exact ⟨0, T1, E, by omega, by go_num, HI5⟩
          case round =>
            clear HI5
            obtain ⟨k, T1, Eb, hk, rfl, HI⟩ := hrel
            by_cases hlt : k < 16
            · have hrc : rcE Eb (k : Int) = 0 := rc_in (by rw [HI.out.2.1.dead]; exact EE.out.2.1) (by rw [HI.out.2.1.las, EE.out.2.2.2.1]; exact hlt)
              have hrd : rdS Eb (k : Int) = E.now.getD k noS := by rw [rd_in (by rw [HI.out.2.1.dead]; exact EE.out.2.1) (by rw [HI.out.2.1.las, EE.out.2.2.2.1]; exact hlt), HI.out.2.1.now]
              go_wp2_with fail
              refine (Tx.second HI.out.2.2.1 HI.out.1.new (Tx.refl HI.out.1) (fun P o K => ow_read o K (k : Int))).mono ?_
              rintro e w6 ⟨rfl, T6, t6, s6, n6⟩
              rw [hrc, hrd]
              have K6 := Sp.kp HI.out.2.2.1 s6 HI.out.1.new
              have hA6 := n6.not HI.out.2.2.2.1 HI.out.2.2.2.2.2
              have ar6 := HI.out.2.2.2.2.1.sp s6 HI.out.2.2.2.1
              obtain ⟨v6, c6, z6⟩ := ar6.at k hlt
              have hA6l := Nat.lt_of_lt_of_le HI.out.2.2.2.2.2 s6.size
              obtain ⟨V, hV⟩ : ∃ V, V = E.now.getD k noS := ⟨_, rfl⟩
              have ar7 : Ar (w6.setCell ⟨A, k, none⟩ (.string (E.now.getD k noS))) A (k + 1) (fun j => E.now.getD j noS) := ar6.set hlt
              rw [← hV] at ar7 ⊢
              have sA : Sp [A] w6 (w6.setCell ⟨A, k, none⟩ (.string V)) := (Sp.refl [A] w6).set A k (by simp) _
              have HI7 := hid (And.intro (t6.sp sA (fun t ht hm => by simp at hm; subst hm; exact hA6 ht)) (And.intro (HI.out.2.1.rd (k : Int)) (And.intro (Sp.kp K6 sA (by simpa using hAw)) (And.intro hA6 (And.intro ar7 (Nat.lt_of_lt_of_le hA6l sA.size))))))
              clear hV ar7 ar6 sA t6 s6 n6 K6 hA6 hA6l hrc hrd HI
              go_wp2
              go_roundw
              case rel => exact ⟨k + 1, T6, _, by omega, by go_num, HI7⟩
              case measure => simp [intOf]; omega
            · obtain rfl : k = 16 := by omega
              go_wp2_with fail
              have x0 := Tx.refl HI.out.1
              refine (Tx.first HI.out.2.2.1 HI.out.1.new x0 (fun P o K => ow_crash o K (.slice none 0 0) [] (ke_nil _) (fun t ht g off n c hv => by cases hv) (by have := EE.out.2.2.2.2; omega))).mono ?_
              rintro e w6 ⟨rfl, x1⟩
              go_wp2_with fail
              have hke : KeIn (w6.alloc (.cells #[.int .u64 18446744073709551615, .int .u64 18446744073709551615] 54)) (.slice (some ⟨w6.heap.size, 0, none⟩) 2 2) [18446744073709551615, 18446744073709551615] := ke_two w6 18446744073709551615 18446744073709551615 (by omega) (by omega) _ rfl
              have k7 : Kp w6 (w6.alloc (.cells #[.int .u64 18446744073709551615, .int .u64 18446744073709551615] 54)) := (Kp.refl w6).alloc _
              have x2 := x1.kp k7
              have hlow : ∀ P, Ow w w6 y P Eb → ∀ t, t ∈ P → t < w6.heap.size := fun P o => o.low
              obtain ⟨W7, hW7⟩ : ∃ W7, W7 = w6.alloc (.cells #[.int .u64 18446744073709551615, .int .u64 18446744073709551615] 54) := ⟨_, rfl⟩
              rw [← hW7] at hke k7 x2 ⊢
              clear hW7
              have hA6 : A ∉ T1 := HI.out.2.2.2.1
              obtain ⟨T6, t6, s6, n6⟩ := x1
              have K7 := (Sp.kp HI.out.2.2.1 s6 HI.out.1.new).trans k7
              have hA7 := n6.not hA6 HI.out.2.2.2.2.2
              have ar7 := (HI.out.2.2.2.2.1.sp s6 hA6).sp (k7.sp []) (by simp)
              have hA7l : A < W7.heap.size := Nat.lt_of_lt_of_le HI.out.2.2.2.2.2 (Nat.le_trans s6.size k7.size)
              have hEbr : Eb.row.length < 1000000 := by rw [HI.out.2.1.row]; have := EE.out.2.2.2.2; omega
              refine ((t6.kp k7).call2 (fun P hP o => ow_crash o K7 _ [18446744073709551615, 18446744073709551615] hke (fun t ht g off n c hv hn => by cases hv; have := t6.low t (hP t ht); omega) hEbr)).mono ?_
              rintro e w8 ⟨rfl, T8, t8, s8, n8⟩
              have K8 := Sp.kp K7 s8 t6.new
              have hA8 := n8.not hA7 hA7l
              have ar8 := ar7.sp s8 hA7
              have hA8l := Nat.lt_of_lt_of_le hA7l s8.size
              have eA : cr E (bit []) = ⟨F2.las, F2.las, [], false, E.c⟩ := by
                unfold cr
                rw [tk_none _ (fun k p => bit_none k)]
                show MS.mk E.las E.las [] E.dead E.c = _
                rw [EE.out.2.2.1, EE.out.2.1]
              have eB : cr Eb (bit [18446744073709551615, 18446744073709551615]) = ⟨E.now, E.now, [], false, Eb.c⟩ := by
                unfold cr
                rw [tk_all _ _ _ (fun k p hk => bit_ones k (by rw [HI.out.2.1.row] at hk; have := EE.out.2.2.2.2; omega))]
                rw [HI.out.2.1.row, HI.out.2.1.las, HI.out.2.1.dead, ← EE.out.1.live EE.out.2.1, EE.out.2.1]
              rw [eA, eB] at t8
              obtain ⟨XA, hXA⟩ : ∃ XA : MS, XA = ⟨F2.las, F2.las, [], false, E.c⟩ := ⟨_, rfl⟩
              obtain ⟨XB, hXB⟩ : ∃ XB : MS, XB = ⟨E.now, E.now, [], false, Eb.c⟩ := ⟨_, rfl⟩
              rw [← hXA, ← hXB] at t8
              have hEn : E.now.length = 16 := by rw [EE.out.1.live EE.out.2.1, pl_len]; exact EE.out.2.2.2.1
              have PA := hid (show XA.dead = false ∧ XA.las.length = 16 ∧ XA.now = F2.las from by rw [hXA]; exact ⟨rfl, FF.out.2.2.2.2, rfl⟩)
              have PB := hid (show XB.dead = false ∧ XB.las.length = 16 ∧ XB.now = E.now from by rw [hXB]; exact ⟨rfl, hEn, rfl⟩)
              have HI8 := hid (And.intro t8 (And.intro (Alk.refl XA) (And.intro (Alk.refl XB) (And.intro (Alk.refl F2) (And.intro K8 (And.intro hA8 (And.intro ar8 hA8l)))))))
              clear t8 s8 n8 K8 hA8 ar8 hA8l eA eB hXA hXB hEn hke k7 x2 hlow hA6 t6 s6 n6 K7 hA7 ar7 hA7l hEbr x0 HI
              go_wp2_with fail
              go_loopw [112] (fun i wr => ∃ (k : Nat) (T1 : List Nat) (Xa Xb Xc : MS), k ≤ 16 ∧ i = .int .i64 k ∧ Hid (Tri w wr T1 x y z Xa Xb Xc ∧ Alk Xa XA ∧ Alk Xb XB ∧ Alk Xc F2 ∧ Kp w wr ∧ A ∉ T1 ∧ Ar wr A 16 (fun j => E.now.getD j noS) ∧ A < wr.heap.size)) (fun i _ => 16 - (intOf i).toNat)
              case atStart => exact ⟨0, T8, XA, XB, F2, by omega, by go_num, HI8⟩
              case round =>
                clear HI8
                obtain ⟨k, T1, Xa, Xb, Xc, hk, rfl, HI⟩ := hrel
                by_cases hlt : k < 16
                · obtain ⟨q1_, q2_, q3_, q4_, q5_, q6_, q7_, q8_⟩ := HI.out
                  obtain ⟨U, hU⟩ : ∃ U, U = F2.las.getD k noS := ⟨_, rfl⟩
                  obtain ⟨V, hV⟩ : ∃ V, V = E.now.getD k noS := ⟨_, rfl⟩
                  have ra : rcE Xa (k : Int) = 0 := rc_in (by rw [q2_.dead]; exact PA.out.1) (by rw [q2_.las, PA.out.2.1]; exact hlt)
                  have sa : rdS Xa (k : Int) = U := by rw [rd_in (by rw [q2_.dead]; exact PA.out.1) (by rw [q2_.las, PA.out.2.1]; exact hlt), q2_.now, PA.out.2.2, hU]
                  have rb : rcE Xb (k : Int) = 0 := rc_in (by rw [q3_.dead]; exact PB.out.1) (by rw [q3_.las, PB.out.2.1]; exact hlt)
                  have sb : rdS Xb (k : Int) = V := by rw [rd_in (by rw [q3_.dead]; exact PB.out.1) (by rw [q3_.las, PB.out.2.1]; exact hlt), q3_.now, PB.out.2.2, hV]
                  have HV := hid hV
                  have rc : rcE Xc (k : Int) = 0 := rc_in (by rw [q4_.dead]; exact FF.out.2.1) (by rw [q4_.las, FF.out.2.2.2.2]; exact hlt)
                  have sc : rdS Xc (k : Int) = U := by rw [rd_in (by rw [q4_.dead]; exact FF.out.2.1) (by rw [q4_.las, FF.out.2.2.2.2]; exact hlt), q4_.now, FF.out.2.2.2.1, hU]
                  clear hU hV
                  go_wp2_with fail
                  refine (Tx.first q5_ q1_.new (Tx.refl q1_) (fun P o K => ow_read o K (k : Int))).mono ?_
                  rintro e w6 ⟨rfl, x1⟩
                  rw [ra, sa]
                  go_wp2_with fail
                  refine (Tx.second q5_ q1_.new x1 (fun P o K => ow_read o K (k : Int))).mono ?_
                  rintro e w7 ⟨rfl, x2⟩
                  rw [rb, sb]
                  go_wp2_with fail
                  refine (Tx.third q5_ q1_.new x2 (fun P o K => ow_read o K (k : Int))).mono ?_
                  rintro e w8 ⟨rfl, T8, t8, s8, n8⟩
                  rw [rc, sc]
                  have ar8 := q7_.sp s8 q6_
                  have c8 : w8.cell? ⟨A, k, none⟩ = some (.string V) := by rw [HV.out]; exact ar8.c k hlt
                  have HI9 := hid (And.intro t8 (And.intro (q2_.rd (k : Int)) (And.intro (q3_.rd (k : Int)) (And.intro (q4_.rd (k : Int)) (And.intro (Sp.kp q5_ s8 q1_.new) (And.intro (n8.not q6_ q8_) (And.intro ar8 (Nat.lt_of_lt_of_le q8_ s8.size))))))))
                  clear x1 x2 t8 s8 n8 ar8 ra sa rb sb rc sc q1_ q2_ q3_ q4_ q5_ q6_ q7_ q8_ HI
                  go_wp2
                  go_roundw
                  case rel => exact ⟨k + 1, T8, _, _, _, by omega, by go_num, HI9⟩
                  case measure => simp [intOf]; omega
                · obtain rfl : k = 16 := by omega
                  have KF := HI.out.2.2.2.2.1
                  clear HI
                  go_wp2
                  go_ret
                  exact ⟨rfl, KF⟩
theorem walk (w : World) (a0 : Value) (l0 : List AC) (a1 : Value) (l1 : List AC) (w0 : ActsIn w a0 l0) (w1 : ActsIn w a1 l1) :
    Calls Try.prog 5 #[a0, a1] w fun e w' => e = .returned (.bool true) ∧ Kp w w' := by
  exact walkN w a0 l0 a1 l1 w0 w1

set_option maxRecDepth 100000 in
theorem lifted (os : Os) (started : os.Started) (H : Type) (enc : TypeId × Value → H) :
    ReturnsInHanded {} Try.checked os 5 .any (Rows.memberAllSpec.pre6 enc Try.prog Try.f5 Rows.memberAllRow.domain false) (Rows.memberAllSpec.post enc Try.prog Try.f5 false true false false) := by
  refine returnsInHanded_of_change (C := Try.checked) own started (by kernel_rfl) Try.func5
    (ChangeSpec.witness6 (enc := enc) (C := Try.checked) false ⟨#[], #[.slice none 0 0, .slice none 0 0], []⟩ 8 (by kernel_rfl) (by kernel_rfl) (by kernel_rfl) (by kernel_rfl)) ?_
  intro W base args ds gs before hval0 hW hcnd _
  have hval : ∀ (j : Nat) t v, Try.f5.params[j]? = some t → args[j]? = some v → Value.okWide Try.prog W .any base t v := hval0
  have hW' := hW
  have hlt := hW.lt
  obtain ⟨p, q, hA0, hV, rfl, hfz, hnd⟩ := hW
  have hA : DataW.TrodAll enc Try.prog W 0 (fun _ => true) true Try.f5.params.toList args.toList ds p := hA0
  have hAk := hA
  rw [Try.params5] at hA hval
  obtain ⟨v0, vs0, d0, ds0, p0, q0, hargs, rfl, rfl, h0, r0⟩ := trodAll_cons hA
  obtain ⟨v1, vs1, d1, ds1, p1, q1, rfl, rfl, rfl, h1, r1⟩ := trodAll_cons r0
  obtain ⟨rfl, rfl, rfl⟩ := trodAll_nil r1
  obtain rfl : args = #[v0, v1] := by cases args; simp_all
  obtain ⟨rfl, rfl⟩ := trodVars_none hV
  obtain ⟨l0, w0⟩ := open_acts (hval 0 22 v0 rfl rfl) h0
  obtain ⟨l1, w1⟩ := open_acts (hval 1 22 v1 rfl rfl) h1
  clear hA0 hval0
  simp only [List.append_nil] at hW' hAk hlt
  refine (walk W v0 l0 v1 l1 w0 w1).mono fun e W' ⟨he, hg⟩ => ?_
  subst he
  exact ⟨_, rfl, post_kp (pv := []) hW' (fun _ _ _ => (trodAll_cons_mk (shut_bool Try.underlying4 _) trodAll_mk0)) (fun sp hsp => trodAll_stays laidOut (by rw [Try.params5]; exact of_decide_eq_true (by kernel_rfl)) hAk (fun x hx => Below.same hg (hlt x hx)) hsp) (fun _ _ => rfl) (by simp) hg⟩

theorem over : Rows.memberAllRow.holds Try.pinned (OpenSpec.ofChange Rows.memberAllSpec) :=
  OpenClaim.holds_of_wide 5 Try.f5 rfl rfl rfl rfl rfl rfl rfl ⟨rfl, rfl, rfl, rfl, rfl⟩ rfl rfl rfl rfl rfl (by kernel_rfl) Try.func5 (by kernel_rfl)
    (of_decide_eq_true (by kernel_rfl)) (by unfold Func.isWrapper; first | (rw [if_pos (by decide +kernel)]; kernel_rfl) | (rw [if_neg (by decide +kernel)]; exact ⟨rfl, rfl⟩))
    (fun os started H enc _ => lifted os started H enc)

end Go.Proofs.Ytohakbhjkhhcaaa.memberAll
namespace Go.Proofs.Ytohakbhjkhhcaaa
theorem memberAll_holds : Rows.MemberAllSaid := memberAll.over
end Go.Proofs.Ytohakbhjkhhcaaa
