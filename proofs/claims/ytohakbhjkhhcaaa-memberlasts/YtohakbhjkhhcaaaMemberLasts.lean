/-
  MemberLasts (P10.1, P10.2): what was flushed is there behind any crash in each sector that was not written since; each sector has what it had, or what it was written with, whole. No condition.
-/
import Derived.Test.YtohakbhjkhhcaaaRows
import Derived.Test.YtohakbhjkhhcaaaBufArgs
import Derived.Test.YtohakbhjkhhcaaaMmSet
import Derived.WalkKit
import Derived.ProofKit
import Derived.OpenShut
import Derived.ShutString
import Derived.Deep.QuietTactic
import Derived.BigQuiet
import Derived.Deep.RegionWith
import Derived.Deep.RegionHeld3
import Derived.Deep.DeepCutAuto
import Derived.Deep.CutBlock
namespace Go.Proofs.Ytohakbhjkhhcaaa.memberLasts
open Go.ChangeShapes Go.WideShapes Go.ChangeAt Go.RowKit
open Go.ChangeMaps (open_string shut_string)
open Go.Proofs.Ytohakbhjkhhcaaa Plain
set_option linter.unusedVariables false

theorem own : ownKnob Try.prog.godebug = none := by kernel_rfl
theorem laidOut : laidOutB Try.prog = true := by kernel_rfl
set_option maxRecDepth 100000 in
set_option maxHeartbeats 4000000 in
theorem walkN (w : World) (v1 : Value) (l1 : List AC) (v2 : Value) (l2 : List AC) (v3 : Value) (ks : List Nat) (i1 : ActsIn w v1 l1) (i2 : ActsIn w v2 l2) (i3 : KeIn w v3 ks) (i4 : ∀ a n c, v3 = .slice a n c → n ≤ c) :
    Calls Try.prog 4 #[v1, v2, v3] w fun e w' => e = .returned (.bool true) ∧ Kp w w' := by
  obtain ⟨q1, cap1, rfl, p1, p2, z1_⟩ := i1.h
  obtain ⟨q2, cap2, rfl, p3, p4, z2_⟩ := i2.h
  obtain ⟨q3, cap3, rfl, p5, p6, z3_⟩ := i3.h
  clear z1_ z2_ z3_
  obtain ⟨n1, hn1⟩ : ∃ n1, n1 = l1.length := ⟨_, rfl⟩
  obtain ⟨n2, hn2⟩ : ∃ n2, n2 = l2.length := ⟨_, rfl⟩
  obtain ⟨n3, hn3⟩ : ∃ n3, n3 = ks.length := ⟨_, rfl⟩
  rw [← hn1] at i1 p1 ⊢
  rw [← hn2] at i2 p3 ⊢
  rw [← hn3] at i3 p5 i4 ⊢
  have I1 := hid i1
  have I2 := hid i2
  have I3 := hid i3
  have N1 := hid hn1
  have N2 := hid hn2
  clear i1 i2 i3 hn1 hn2 hn3
  have hmin := @imin Try.prog
  obtain ⟨m1, e1⟩ : ∃ m : Nat, min (n1 : Int) 30 = (m : Int) := ⟨min n1 30, by omega⟩
  obtain ⟨m2, e2⟩ : ∃ m : Nat, min (n2 : Int) 100 = (m : Int) := ⟨min n2 100, by omega⟩
  obtain ⟨m3, e3⟩ : ∃ m : Nat, min (n3 : Int) 4 = (m : Int) := ⟨min n3 4, by omega⟩
  have hm1 : m1 ≤ n1 := by omega
  have hm2 : m2 ≤ n2 := by omega
  have hm5 : m3 ≤ n3 := by omega
  have hm3 : m1 ≤ 30 := by omega
  have hm4 : m2 ≤ 100 := by omega
  have hm7 : n3 ≤ cap3 := i4 _ _ _ rfl
  have hm6 : m3 ≤ cap3 := by omega
  clear i4
  go_enter Try.func4, Try.ntmps4
  go_wp2_with fail
  refine (ow_new 16 w w (Kp.refl w)).mono ?_
  rintro e u1 ⟨x, T, rfl, o1, k1, _⟩
  obtain ⟨N, hN⟩ : ∃ N, N = nw (nwN 16) := ⟨_, rfl⟩
  rw [← hN] at o1
  have HN := hid hN
  have HR0 : Hid (N.row.length = 0) := by rw [hN]; rfl
  clear hN
  go_wp2_with fail
  refine (wakes_any u1).mono ?_
  rintro e W ⟨rfl, kW⟩
  have HO := hid (o1.kp kW)
  have HKW := hid (k1.trans kW)
  have HTW := hid o1.new
  clear o1 k1 kW
  go_wp2_with fail
  go_loopw [28] (fun i wr => ∃ k : Nat, k ≤ m1 ∧ i = .int .i64 k ∧ Hid (Ry w W x T (wrs N (l1.take k)) wr)) (fun i _ => m1 - (intOf i).toNat)
  case atStart => exact ⟨0, by omega, by go_num, Ry.refl HO.out⟩
  case round =>
    obtain ⟨k, hk, rfl, HX⟩ := hrel
    by_cases hlt : k < m1
    · skip
      have hkn : k < n1 := by omega
      have hks : k < l1.length := by rw [← N1.out]; exact hkn
      have KR := HX.out.below HKW.out HTW.out
      obtain ⟨qa, qc, eq, z1_, z2_, hq⟩ := (I1.out.kp KR).take m1 (by rw [← N1.out]; exact hm1)
      obtain ⟨g, off, hqq, hrg⟩ := hq (by omega)
      simp only [Value.slice.injEq] at eq
      obtain rfl : q1 = some ⟨g, off, none⟩ := eq.1.trans hqq
      obtain ⟨f0, f1, f2, f3, f4⟩ := acs_cells (hrg k hlt)
      have fok := (I1.out.kp KR).ok k hks
      obtain ⟨a_, ha_⟩ : ∃ a_, a_ = l1.getD k noA := ⟨_, rfl⟩
      rw [← ha_] at f0 f1 f2 f3 f4 fok
      have HA := hid ha_
      obtain ⟨op_, k_, d_, o_, kv_, ks_⟩ := a_
      simp only at f0 f1 f2 f3 f4
      have hd8 : d_ < 256 := fok.d
      obtain ⟨va, vc, hva, z3_⟩ := fok.k.h
      simp only at hva
      subst hva
      obtain ⟨vn, hvn⟩ : ∃ vn, vn = ks_.length := ⟨_, rfl⟩
      rw [← hvn] at f4 HA
      clear ha_ eq hqq hrg fok z1_ z2_ hq z3_ hvn
      have hwr := wrs_take N l1 k hks
      rw [← HA.out] at hwr
      simp only at hwr
      have hrl := (wrs_row (l1.take k) N).1
      rw [List.length_take, HR0.out] at hrl
      obtain ⟨S, hS⟩ : ∃ S, S = wrs N (l1.take k) := ⟨_, rfl⟩
      rw [← hS] at hwr HX hrl
      obtain ⟨S', hS'⟩ : ∃ S', S' = wrs N (l1.take (k + 1)) := ⟨_, rfl⟩
      rw [← hS'] at hwr
      have HS' := hid hS'
      obtain ⟨sX, hsX⟩ : ∃ sX, sX = scS d_ false := ⟨_, rfl⟩
      rw [← hsX] at hwr
      have HWR := hid hwr
      have HSX : Hid (∀ V, Calls Try.prog 15 #[.int .u8 (d_ : Int), .bool false] V fun e V' => e = .returned (.string sX) ∧ Kp V V') := by rw [hsX]; exact sector_any d_ hd8 false
      have HR1 : Hid (S.row.length < 1000000) := by show _ < _; omega
      clear hS hS' hsX hwr HA hrl
      go_wp2_with fail
      obtain ⟨T1, o1, sp1, nw1⟩ := HX.out
      obtain ⟨K, hK⟩ : ∃ K, K = wr.heap.size := ⟨_, rfl⟩
      obtain ⟨W1, hW1⟩ : ∃ W1, W1 = wr.alloc (.cells #[.int .i64 op_, .int .i64 k_, .int .u8 (d_ : Int), .bool o_, .slice va vn vc] 31) := ⟨_, rfl⟩
      rw [← hW1, ← hK]
      have k1 : Kp wr W1 := by rw [hW1]; exact (Kp.refl wr).alloc _
      have HC1 : Hid (W1.cell? ⟨K, 1, none⟩ = some (.int .i64 k_)) := by rw [hW1, World.cell?_alloc_at _ _ _ _ hK]; rfl
      have HC2 : Hid (W1.cell? ⟨K, 2, none⟩ = some (.int .u8 (d_ : Int))) := by rw [hW1, World.cell?_alloc_at _ _ _ _ hK]; rfl
      have hKT : Hid (K ∉ T1) := fun hm => by have := o1.low K hm; omega
      have HK1 := hid (KR.trans k1)
      have HT1 := hid o1.new
      have SP1 := hid (sp1.trans (k1.sp T))
      have NW1 := hid nw1
      have x0 := Ry.refl (o1.kp k1)
      clear hW1 hK k1 sp1 nw1 o1 f0 f1 f2 f3 f4 HX KR
      have c15 : ∀ V, Ry w W1 x T1 S V → Calls Try.prog 15 #[.int .u8 (d_ : Int), .bool false] V fun e V' => e = .returned (.string sX) ∧ Ry w W1 x T1 S V' := fun V k => (HSX.out V).mono fun e V' ⟨he, k'⟩ => ⟨he, k.kp k'⟩
      have c14 : ∀ V, Ry w W1 x T1 S V → Calls Try.prog 14 #[.pointer (some ⟨x, 0, none⟩), .int .i64 k_, .string sX] V fun e V' => e = .returned (.int .i64 (wrE S k_ sX)) ∧ Ry w W1 x T1 S' V' := fun V k => by
        have := Ry.call HK1.out HT1.out k (fun P o K => ow_write o K k_ sX (by have := HR1.out; omega))
        rw [← HWR.out] at this
        exact this
      have hS1 : ∀ V, Ry w W1 x T1 S V → V.cell? ⟨K, 1, none⟩ = some (.int .i64 k_) ∧ V.cell? ⟨K, 2, none⟩ = some (.int .u8 (d_ : Int)) := fun V k => ⟨k.held HC1.out hKT.out, k.held HC2.out hKT.out⟩
      have hS2 : ∀ V, Ry w W1 x T1 S' V → V.cell? ⟨K, 1, none⟩ = some (.int .i64 k_) ∧ V.cell? ⟨K, 2, none⟩ = some (.int .u8 (d_ : Int)) := fun V k => ⟨k.held HC1.out hKT.out, k.held HC2.out hKT.out⟩
      have hr0 := x0.kp (Kp.refl _).drew
      go_wp2_with fail
      go_region_held3 (fun V => V.cell? ⟨K, 1, none⟩ = some (.int .i64 k_) ∧ V.cell? ⟨K, 2, none⟩ = some (.int .u8 (d_ : Int))) (first | exact hS1 _ (by assumption) | exact hS2 _ (by assumption)) (first
        | (go_at_call 15; refine (c15 _ (by assumption)).mono ?_; rintro e w0a ⟨rfl, h0a⟩)
        | (go_at_call 14; refine (c14 _ (by assumption)).mono ?_; rintro e w0b ⟨rfl, x1⟩))
      clear c15 c14 hS1 hS2 hr0 x0 h0a
      have HX2 := hid (Ry.trans SP1.out NW1.out x1)
      rw [HS'.out] at HX2
      clear x1 HC1 HC2 hKT HK1 HT1 SP1 NW1 HSX HWR HR1 HS'
      go_wp2
      go_roundw
      case rel => exact ⟨k + 1, by omega, by go_num, HX2⟩
      case measure => simp [intOf]; omega
    · obtain rfl : k = m1 := by omega
      have KR := HX.out.below HKW.out HTW.out
      have hr1 := (wrs_row (l1.take k) N)
      rw [List.length_take, HR0.out] at hr1
      have hri := wrs_right (l1.take k) N (by rw [HN.out]; exact Right.nw _)
      obtain ⟨F, hF⟩ : ∃ F, F = wrs N (l1.take k) := ⟨_, rfl⟩
      rw [← hF] at hr1 hri HX
      have hFd : F.dead = false := hr1.2.1.trans (by rw [HN.out]; rfl)
      have hFl : F.las.length = 16 := by rw [hr1.2.2, HN.out]; rfl
      obtain ⟨w1_, w2_, w3_, w4_, w5_, w6_⟩ := fl_facts hri hFd
      rw [hFl] at w5_
      obtain ⟨F2, hF2⟩ : ∃ F2, F2 = fl F := ⟨_, rfl⟩
      rw [← hF2] at w1_ w2_ w3_ w4_ w5_
      have HF2 := hid hF2
      have HFE := hid w6_
      have FF := hid (And.intro w1_ (And.intro w2_ (And.intro w3_ (And.intro w4_ w5_))))
      clear hF hF2 hr1 hri hFd hFl w1_ w2_ w3_ w4_ w5_ w6_ HR0
      go_wp2_with fail
      refine (Ry.call HKW.out HTW.out HX.out (fun P o K => ow_flush o K)).mono ?_
      rintro e wf ⟨rfl, xf⟩
      rw [HFE.out]
      rw [← HF2.out] at xf
      have KF := xf.below HKW.out HTW.out
      obtain ⟨T2, o2, _, _⟩ := xf
      have HO2 := hid o2
      have HKF := hid KF
      clear o2 KF KR HX HF2 HFE HO HKW HTW
      have hmk : ∀ V : World, (Instr.makeSlice 46 (.int .i64 16) (.int .i64 16)).run Try.prog V = .ok (.slice (some ⟨V.heap.size, 0, none⟩) 16 16) (V.alloc (.cells (madeCells #[.map none] 16) 47)) := fun V => run_make_row' (P := Try.prog) 46 47 (.map none) 8 Try.underlying46 info_map rfl .i64 .i64 16 (by omega) (by omega) V
      go_wp2_with fail
      obtain ⟨MB, hMB⟩ : ∃ MB, MB = wf.heap.size := ⟨_, rfl⟩
      obtain ⟨W5, hW5⟩ : ∃ W5, W5 = wf.alloc (.cells (madeCells #[.map none] 16) 47) := ⟨_, rfl⟩
      rw [← hW5, ← hMB]
      have k5 : Kp wf W5 := by rw [hW5]; exact (Kp.refl wf).alloc _
      have my5 : May W5 MB 0 1 (fun _ => 0) (fun i s => s = F2.now.getD i noS) := ⟨fun i hi => by omega, fun i hi => by omega, fun i j hi => by omega, fun i hi => by omega, by rw [hW5, hMB]; exact there_new _ _ _ _ (size_madeCells _ _).symm, by rw [hW5, hMB]; simp⟩
      have hMT : MB ∉ T2 := fun hm => by have := HO2.out.low MB hm; omega
      have hMw : w.heap.size ≤ MB := by rw [hMB]; exact HKF.out.size
      have HI5 := hid (And.intro (HO2.out.kp k5) (And.intro (Alk.refl F2) (And.intro (HKF.out.trans k5) (And.intro my5 (And.intro hMT (fun (i : Nat) (hi : i < 0) => (show (0 : Nat) ∉ T2 ∧ w.heap.size ≤ 0 from by omega)))))))
      have hmm := @run_makeMap Try.prog
      clear hW5 hMB k5 my5 hMT HO2 HKF hmk
      go_loopw [46] (fun i wr => ∃ (k : Nat) (T1 : List Nat) (Eb : MS) (f : Nat → Nat), k ≤ 16 ∧ i = .int .i64 k ∧ Hid (Ow w wr x T1 Eb ∧ Alk Eb F2 ∧ Kp w wr ∧ May wr MB k 1 f (fun i s => s = F2.now.getD i noS) ∧ MB ∉ T1 ∧ ∀ i, i < k → f i ∉ T1 ∧ w.heap.size ≤ f i)) (fun i _ => 16 - (intOf i).toNat)
      case atStart => exact ⟨0, T2, F2, _, by omega, by go_num, HI5⟩
      case round =>
        clear HI5
        obtain ⟨k, T1, Eb, f, hk, rfl, HI⟩ := hrel
        by_cases hlt : k < 16
        · obtain ⟨q1_, q2_, q3_, q4_, q5_, q6_⟩ := HI.out
          have hrc : rcE Eb (k : Int) = 0 := rc_in (by rw [q2_.dead]; exact FF.out.2.1) (by rw [q2_.las, FF.out.2.2.2.2]; exact hlt)
          have hrd : rdS Eb (k : Int) = F2.now.getD k noS := by rw [rd_in (by rw [q2_.dead]; exact FF.out.2.1) (by rw [q2_.las, FF.out.2.2.2.2]; exact hlt), q2_.now]
          have hsz : (F2.now.getD k noS).size ≤ 64 := by
            rw [← q2_.now]
            exact Nat.le_of_eq (q1_.fine.bn _ (getD_mem (by rw [q1_.fine.nn, q2_.las, FF.out.2.2.2.2]; exact hlt)))
          go_wp2_with fail
          refine (Ry.call q3_ q1_.new (Ry.refl q1_) (fun P o K => ow_read o K (k : Int))).mono ?_
          rintro e w6 ⟨rfl, T6, t6, s6, n6⟩
          rw [hrc, hrd]
          have K6 := Sp.kp q3_ s6 q1_.new
          have hM6 := n6.not q5_ q4_.hM
          have my6 := q4_.sp s6 q5_ (fun i hi => (q6_ i hi).1)
          obtain ⟨V, hV⟩ : ∃ V, V = F2.now.getD k noS := ⟨_, rfl⟩
          have HV := hid hV
          rw [← hV] at hsz ⊢
          obtain ⟨w7, up7, y7, s7⟩ := (YesM.made w6).put V hsz (by omega)
          have kb : Kp w6 (w6.alloc (.map #[] 0)) := (Kp.refl w6).alloc _
          have k7 : Kp w6 w7 := Sp.kp kb s7 (by simp)
          have hbl : w6.heap.size < w7.heap.size := Nat.lt_of_lt_of_le (by simp) s7.size
          have my8 := my6.more hlt (k7.sp []) (Nat.le_refl _) hbl (y7.sub (Nat.le_refl _) (fun s hs => .inr (by rw [hV]; exact hs)))
          have my7 := my6.sp (k7.sp []) (by simp) (fun _ _ => by simp)
          obtain ⟨tt1, hfz⟩ := my7.t k hlt
          obtain ⟨cv, hcv⟩ := Option.isSome_iff_exists.1 tt1
          clear my7 tt1
          rw [Nat.zero_add] at hcv hfz
          have sM : Sp [MB] w7 (w7.setCell ⟨MB, k, none⟩ (.map (some w6.heap.size))) := (Sp.refl [MB] w7).set MB k (by simp) _
          have t9 := (t6.kp k7).sp sM (fun t ht hm => by simp at hm; subst hm; exact hM6 ht)
          have HI9 := hid (And.intro t9 (And.intro (q2_.rd (k : Int)) (And.intro (Sp.kp (K6.trans k7) sM (by simpa using hMw)) (And.intro my8 (And.intro hM6 (fun (i : Nat) (hi : i < k + 1) => (show (if i = k then w6.heap.size else f i) ∉ T6 ∧ w.heap.size ≤ (if i = k then w6.heap.size else f i) from by
            by_cases e : i = k
            · rw [if_pos e]; exact ⟨fun hm => by have := t6.low _ hm; omega, K6.size⟩
            · rw [if_neg e]; exact ⟨n6.not (q6_ i (by omega)).1 (q4_.yes i (by omega)).lt, (q6_ i (by omega)).2⟩)))))))
          clear hV my8 my6 sM t9 t6 s6 n6 K6 hM6 kb k7 y7 s7 hbl hrc hrd q1_ q2_ q3_ q4_ q5_ q6_ HI
          go_wp2
          go_roundw
          case rel => exact ⟨k + 1, T6, _, _, by omega, by go_num, HI9⟩
          case measure => simp [intOf]; omega
        · obtain rfl : k = 16 := by omega
          obtain ⟨q1_, q2_, q3_, q4_, q5_, q6_⟩ := HI.out
          have HR0 : Hid (Eb.row.length = 0) := by rw [q2_.row, FF.out.2.2.1]; rfl
          have HA0 := hid q2_
          have HRt : Hid (Right Eb) := ⟨fun h => by rw [q2_.now, q2_.las, q2_.row, FF.out.2.2.1]; exact FF.out.2.2.2.1, fun h => by rw [q2_.row]; exact FF.out.2.2.1⟩
          have HI0 := hid (And.intro q1_ (And.intro q3_ (And.intro (q4_.sub (c' := 1) (S' := may F2.now (l2.take 0)) (Nat.le_refl _) (fun j _ s hs => by
            rcases hs with h | ⟨a, ha, _⟩
            · exact h
            · simp at ha)) (And.intro q5_ q6_))))
          clear q1_ q2_ q3_ q4_ q5_ q6_ HI hmm
          go_wp2_with fail
          go_loopw [68] (fun i wr => ∃ (k : Nat) (T1 : List Nat), k ≤ m2 ∧ i = .int .i64 k ∧ Hid (Ow w wr x T1 (wrs Eb (l2.take k)) ∧ Kp w wr ∧ May wr MB 16 (1 + k) f (may F2.now (l2.take k)) ∧ MB ∉ T1 ∧ ∀ i, i < 16 → f i ∉ T1 ∧ w.heap.size ≤ f i)) (fun i _ => m2 - (intOf i).toNat)
          case atStart => exact ⟨0, T1, by omega, by go_num, HI0⟩
          case round =>
            clear HI0
            obtain ⟨k, T1, hk, rfl, HI⟩ := hrel
            by_cases hlt : k < m2
            · skip
              have hkn : k < n2 := by omega
              have hks : k < l2.length := by rw [← N2.out]; exact hkn
              have KR := HI.out.2.1
              obtain ⟨qa, qc, eq, z1_, z2_, hq⟩ := (I2.out.kp KR).take m2 (by rw [← N2.out]; exact hm2)
              obtain ⟨g, off, hqq, hrg⟩ := hq (by omega)
              simp only [Value.slice.injEq] at eq
              obtain rfl : q2 = some ⟨g, off, none⟩ := eq.1.trans hqq
              obtain ⟨f0, f1, f2, f3, f4⟩ := acs_cells (hrg k hlt)
              have fok := (I2.out.kp KR).ok k hks
              obtain ⟨a_, ha_⟩ : ∃ a_, a_ = l2.getD k noA := ⟨_, rfl⟩
              rw [← ha_] at f0 f1 f2 f3 f4 fok
              have HA := hid ha_
              obtain ⟨op_, k_, d_, o_, kv_, ks_⟩ := a_
              simp only at f0 f1 f2 f3 f4
              have hd8 : d_ < 256 := fok.d
              obtain ⟨va, vc, hva, z3_⟩ := fok.k.h
              simp only at hva
              subst hva
              obtain ⟨vn, hvn⟩ : ∃ vn, vn = ks_.length := ⟨_, rfl⟩
              rw [← hvn] at f4 HA
              clear ha_ eq hqq hrg fok z1_ z2_ hq z3_ hvn
              have hwr := wrs_take Eb l2 k hks
              rw [← HA.out] at hwr
              simp only at hwr
              have hrl := (wrs_row (l2.take k) Eb).1
              rw [List.length_take, HR0.out] at hrl
              obtain ⟨S, hS⟩ : ∃ S, S = wrs Eb (l2.take k) := ⟨_, rfl⟩
              rw [← hS] at hwr HI hrl
              obtain ⟨S', hS'⟩ : ∃ S', S' = wrs Eb (l2.take (k + 1)) := ⟨_, rfl⟩
              rw [← hS'] at hwr
              have HS' := hid hS'
              obtain ⟨sX, hsX⟩ : ∃ sX, sX = scS d_ false := ⟨_, rfl⟩
              rw [← hsX] at hwr
              have HWR := hid hwr
              have HSX : Hid (∀ V, Calls Try.prog 15 #[.int .u8 (d_ : Int), .bool false] V fun e V' => e = .returned (.string sX) ∧ Kp V V') := by rw [hsX]; exact sector_any d_ hd8 false
              have HR1 : Hid (S.row.length < 1000000) := by show _ < _; omega
              have hSr := wrs_row (l2.take k) Eb
              rw [← hS] at hSr
              have hst : ∀ (i : Nat) (s : ByteArray), may F2.now (l2.take (k + 1)) i s → may F2.now (l2.take k) i s ∨ (k_ = (i : Int) ∧ s = sX) := fun i s hm => by
                have := may_step hks hm
                rw [← HA.out] at this
                rw [hsX]
                exact this
              have HST := hid hst
              have hsz : sX.size = 64 := by rw [hsX]; exact scS_size d_
              clear hst
              clear hS hS' hsX hwr HA hrl
              have hSd : S.dead = false := hSr.2.1.trans (by rw [HA0.out.dead]; exact FF.out.2.1)
              have hSl : S.las.length = 16 := by rw [hSr.2.2, HA0.out.las]; exact FF.out.2.2.2.2
              obtain ⟨q1_, q2_, q3_, q4_, q5_⟩ := HI.out
              have HSZ := hid hsz
              clear hSr hsz
              go_wp2_with fail
              obtain ⟨K, hK⟩ : ∃ K, K = wr.heap.size := ⟨_, rfl⟩
              obtain ⟨W1, hW1⟩ : ∃ W1, W1 = wr.alloc (.cells #[.int .i64 op_, .int .i64 k_, .int .u8 (d_ : Int), .bool o_, .slice va vn vc] 31) := ⟨_, rfl⟩
              rw [← hW1, ← hK]
              have k1 : Kp wr W1 := by rw [hW1]; exact (Kp.refl wr).alloc _
              have HC1 : Hid (W1.cell? ⟨K, 1, none⟩ = some (.int .i64 k_)) := by rw [hW1, World.cell?_alloc_at _ _ _ _ hK]; rfl
              have HC2 : Hid (W1.cell? ⟨K, 2, none⟩ = some (.int .u8 (d_ : Int))) := by rw [hW1, World.cell?_alloc_at _ _ _ _ hK]; rfl
              have hKT : Hid (K ∉ T1) := fun hm => by have := q1_.low K hm; omega
              have HK1 := hid (KR.trans k1)
              have HT1 := hid q1_.new
              have MY1 := hid (q3_.sp (k1.sp []) (by simp) (fun _ _ => by simp))
              have HT2 := hid (And.intro q4_ q5_)
              have x0 := Ry.refl (q1_.kp k1)
              clear hW1 hK k1 f0 f1 f2 f3 f4 KR q1_ q2_ q3_ q4_ q5_ HI
              by_cases hin : 0 ≤ k_ ∧ k_ < 16
              · obtain ⟨i, rfl⟩ : ∃ i : Nat, k_ = (i : Int) := ⟨k_.toNat, by omega⟩
                have hi : i < 16 := by omega
                have HW0 : Hid (wrE S (i : Int) sX = 0) := by
                  show wrE S (i : Int) sX = 0
                  unfold wrE
                  rw [rc_in hSd (by rw [hSl]; exact hi), if_pos rfl, if_pos HSZ.out]
                have hi2 : (i : Int) < 16 := by omega
                clear hin
                have c15 : ∀ V, Ry w W1 x T1 S V → Calls Try.prog 15 #[.int .u8 (d_ : Int), .bool false] V fun e V' => e = .returned (.string sX) ∧ Ry w W1 x T1 S V' := fun V k => (HSX.out V).mono fun e V' ⟨he, k'⟩ => ⟨he, k.kp k'⟩
                have c14 : ∀ V, Ry w W1 x T1 S V → Calls Try.prog 14 #[.pointer (some ⟨x, 0, none⟩), .int .i64 (i : Int), .string sX] V fun e V' => e = .returned (.int .i64 (0)) ∧ Ry w W1 x T1 S' V' := fun V k => by
                  have := Ry.call HK1.out HT1.out k (fun P o K => ow_write o K (i : Int) sX (by have := HR1.out; omega))
                  rw [← HWR.out] at this
                  rw [HW0.out] at this
                  exact this
                have hS1 : ∀ V, Ry w W1 x T1 S V → V.cell? ⟨K, 1, none⟩ = some (.int .i64 (i : Int)) ∧ V.cell? ⟨K, 2, none⟩ = some (.int .u8 (d_ : Int)) := fun V k => ⟨k.held HC1.out hKT.out, k.held HC2.out hKT.out⟩
                have hS2 : ∀ V, Ry w W1 x T1 S' V → V.cell? ⟨K, 1, none⟩ = some (.int .i64 (i : Int)) ∧ V.cell? ⟨K, 2, none⟩ = some (.int .u8 (d_ : Int)) := fun V k => ⟨k.held HC1.out hKT.out, k.held HC2.out hKT.out⟩
                have hr0 := x0.kp (Kp.refl _).drew
                go_wp2_with fail
                go_region_held3 (fun V => V.cell? ⟨K, 1, none⟩ = some (.int .i64 (i : Int)) ∧ V.cell? ⟨K, 2, none⟩ = some (.int .u8 (d_ : Int))) (first | exact hS1 _ (by assumption) | exact hS2 _ (by assumption)) (first
                  | (go_at_call 15; refine (c15 _ (by assumption)).mono ?_; rintro e w0a ⟨rfl, h0a⟩)
                  | (go_at_call 14; refine (c14 _ (by assumption)).mono ?_; rintro e w0b ⟨rfl, x1⟩))
                clear c15 c14 hS1 hS2 hr0 x0 h0a
                go_wp2_with fail
                obtain ⟨TT, oT, sT, nT⟩ := x1
                have MY2 := MY1.out.sp sT HT2.out.1 (fun j hj => (HT2.out.2 j hj).1)
                have d1 := sT.held HC1.out hKT.out
                have d2 := sT.held HC2.out hKT.out
                have d3 := MY2.cell i hi
                have K2 := Sp.kp HK1.out sT HT1.out
                have hMT2 := nT.not HT2.out.1 MY1.out.hM
                have hfT2 : ∀ j, j < 16 → f j ∉ TT := fun j hj => nT.not (HT2.out.2 j hj).1 (MY1.out.yes j hj).lt
                have HM2 := hid MY2
                have HO2 := hid oT
                have HKK2 := hid K2
                have HMT2 := hid (And.intro hMT2 hfT2)
                have q1 := kpw_cell d1
                have q2 := kpw_cell d2
                have q3 := kpw_cell d3
                clear MY2 oT sT nT d1 d2 d3 K2 hMT2 hfT2 MY1
                refine wp_region_tailc2 rfl (by kernel_rfl) (by kernel_rfl) (by kernel_rfl) ?_
                simp only [List.dropLast]
                repeat (first
                  | go_big_quiet_skip
                  | (go_big_quiet_want; go_big_quiet_op; go_big_quiet_on)
                  | (go_big_quiet_want; go_big_quiet_op; apply Exists.intro; refine ⟨fun p => ?_, ?_⟩; (focus
                      first
                      | (go_at_call 15; exact kp_call (HSX.out _))); go_big_quiet_on))
                refine wpQuiet_nil ?_
                rintro w9 ⟨q, hp9⟩
                have kD : Kp w0b w9 := by rw [hp9]; exact kpw_kp w0b q
                clear hp9 q1 q2 q3
                have MY9 := HM2.out.sp (kD.sp []) (by simp) (fun _ _ => by simp)
                obtain ⟨w10, up10, y10, s10⟩ := (MY9.yes i hi).put sX (Nat.le_of_eq HSZ.out) (by omega)
                have MY10 : May w10 MB 16 (1 + (k + 1)) f (may F2.now (l2.take (k + 1))) := MY9.put i hi s10 (y10.sub (Nat.le_refl _) (fun s hs => by
                  rcases HST.out i s hs with h | ⟨_, h⟩
                  · exact .inl h
                  · exact .inr h)) (fun j hj s hs => by
                  rcases HST.out j s hs with h | ⟨h, _⟩
                  · exact h
                  · exact absurd (by omega) hj)
                have hfb : f i ∉ TT := HMT2.out.2 i hi
                have o10 := (HO2.out.kp kD).sp s10 (fun t ht hm => by simp at hm; subst hm; exact hfb ht)
                have K10 := Sp.kp (HKK2.out.trans kD) s10 (by simpa using (HT2.out.2 i hi).2)
                have HI10 : Hid (Ow w w10 x TT (wrs Eb (l2.take (k + 1))) ∧ Kp w w10 ∧ May w10 MB 16 (1 + (k + 1)) f (may F2.now (l2.take (k + 1))) ∧ MB ∉ TT ∧ ∀ i, i < 16 → f i ∉ TT ∧ w.heap.size ≤ f i) := by
                  rw [← HS'.out]
                  exact ⟨o10, K10, MY10, HMT2.out.1, fun j hj => ⟨HMT2.out.2 j hj, (HT2.out.2 j hj).2⟩⟩
                clear MY9 y10 s10 MY10 hfb o10 K10 kD HM2 HO2 HKK2 HMT2
                refine wpList_update_run rfl (.tmp 94) (.tmp 97) _ 47 rfl _ _ _ w10 rfl rfl rfl up10 ?_
                show wpList _ _ _ [] (Act.put _ none undef) _
                simp only [Act.put]
                go_wp2
                go_roundw
                case rel =>
                  iterate 32 (apply Exists.intro)
                  refine ⟨⟨k + 1, TT, by omega, by go_num, HI10⟩, ?_⟩
                  rfl
                case measure => simp [intOf]; omega
              · have hrc : rcE S k_ = 3 := by
                  unfold rcE
                  rw [hSd, if_neg (by simp), hSl, if_neg (by simpa using hin)]
                have HW3 : Hid (wrE S k_ sX = 3) := by
                  show wrE S k_ sX = 3
                  unfold wrE
                  rw [hrc, if_neg (by decide)]
                have HSS : Hid (S' = S) := by
                  show S' = S
                  rw [HWR.out]
                  unfold Go.Proofs.Ytohakbhjkhhcaaa.wr
                  rw [HW3.out, if_neg (by decide)]
                clear hrc
                have c15 : ∀ V, Ry w W1 x T1 S V → Calls Try.prog 15 #[.int .u8 (d_ : Int), .bool false] V fun e V' => e = .returned (.string sX) ∧ Ry w W1 x T1 S V' := fun V k => (HSX.out V).mono fun e V' ⟨he, k'⟩ => ⟨he, k.kp k'⟩
                have c14 : ∀ V, Ry w W1 x T1 S V → Calls Try.prog 14 #[.pointer (some ⟨x, 0, none⟩), .int .i64 k_, .string sX] V fun e V' => e = .returned (.int .i64 3) ∧ Ry w W1 x T1 S V' := fun V k => by
                  have := Ry.call HK1.out HT1.out k (fun P o K => ow_write o K k_ sX (by have := HR1.out; omega))
                  rw [← HWR.out, HSS.out, HW3.out] at this
                  exact this
                have hR : Ry w W1 x T1 S W1.drew := x0.kp (Kp.refl _).drew
                have q1 := fun p => (prw_ok hR p).held HC1.out hKT.out
                have q2 := fun p => (prw_ok hR p).held HC2.out hKT.out
                go_wp2_with fail
                refine wp_region_pr (Ry w W1 x T1 S) hR (by kernel_rfl) (by kernel_rfl) ?_
                repeat (first
                  | go_big_quiet_skip
                  | (go_big_quiet_want; go_big_quiet_op; go_big_quiet_on)
                  | (go_big_quiet_want; go_big_quiet_op; apply Exists.intro; refine ⟨fun p => ?_, ?_⟩; (focus
                      first
                      | (go_at_call 15; exact pr_call (c15 _ (prw_ok hR p)))
                      | (go_at_call 14; exact pr_call (c14 _ (prw_ok hR p)))); go_big_quiet_on))
                refine wpQuiet_nil ?_
                rintro w0b ⟨p, hp⟩
                have x1 : Ry w W1 x T1 S' w0b := by rw [hp, HSS.out]; exact prw_ok hR p
                clear hp q1 q2 hR c14 c15 x0
                obtain ⟨TT, oT, sT, nT⟩ := x1
                have MY2 := MY1.out.sp sT HT2.out.1 (fun j hj => (HT2.out.2 j hj).1)
                have HI10 : Hid (Ow w w0b x TT (wrs Eb (l2.take (k + 1))) ∧ Kp w w0b ∧ May w0b MB 16 (1 + (k + 1)) f (may F2.now (l2.take (k + 1))) ∧ MB ∉ TT ∧ ∀ i, i < 16 → f i ∉ TT ∧ w.heap.size ≤ f i) := by
                  rw [← HS'.out]
                  exact ⟨oT, Sp.kp HK1.out sT HT1.out, MY2.sub (by omega) (fun j hj s hs => by
                    rcases HST.out j s hs with h | ⟨h, _⟩
                    · exact h
                    · exact absurd ⟨by omega, by omega⟩ hin), nT.not HT2.out.1 MY1.out.hM, fun j hj => ⟨nT.not (HT2.out.2 j hj).1 (MY1.out.yes j hj).lt, (HT2.out.2 j hj).2⟩⟩
                clear oT sT nT MY2 MY1
                go_wp2
                go_roundw
                case rel => exact ⟨k + 1, TT, by omega, by go_num, HI10⟩
                case measure => simp [intOf]; omega
            · obtain rfl : k = m2 := by omega
              obtain ⟨q1_, q2_, q3_, q4_, q5_⟩ := HI.out
              have hSr := wrs_row (l2.take k) Eb
              rw [List.length_take, HR0.out] at hSr
              have hMC : ∀ fb i, may F2.now (l2.take k) i ((cr (wrs Eb (l2.take k)) fb).now.getD i noS) := fun fb i => by
                have := may_crash (S := Eb) (L := l2.take k) (by rw [HA0.out.row]; exact FF.out.2.2.1) fb i
                rw [HA0.out.las, ← FF.out.2.2.2.1] at this
                exact this
              obtain ⟨S, hS⟩ : ∃ S, S = wrs Eb (l2.take k) := ⟨_, rfl⟩
              rw [← hS] at q1_ hSr hMC
              have hSd : S.dead = false := hSr.2.1.trans (by rw [HA0.out.dead]; exact FF.out.2.1)
              have hSl : S.las.length = 16 := by rw [hSr.2.2, HA0.out.las]; exact FF.out.2.2.2.2
              clear hS
              have KE := ((I3.out.take m3 hm5).kp q2_)
              go_wp2_with fail
              refine (Ry.call q2_ q1_.new (Ry.refl q1_) (fun P o K => ow_crash o K (.slice q3 m3 cap3) (ks.take m3) KE (fun t ht g off n c hv hn => by have h1 := (I3.out.take m3 hm5).far g off n c hv hn; have h2 := o.new t ht; omega) (by omega))).mono ?_
              rintro e w6 ⟨rfl, T6, t6, s6, n6⟩
              have K6 := Sp.kp q2_ s6 q1_.new
              have MY6 := q3_.sp s6 q4_ (fun i hi => (q5_ i hi).1)
              obtain ⟨XC, hXC⟩ : ∃ XC, XC = cr S (bit (ks.take m3)) := ⟨_, rfl⟩
              have hM6 := hMC (bit (ks.take m3))
              obtain ⟨L2, hL2⟩ : ∃ L2, L2 = l2.take k := ⟨_, rfl⟩
              obtain ⟨c2, hc2⟩ : ∃ c2, c2 = 1 + k := ⟨_, rfl⟩
              rw [← hL2, ← hc2] at MY6
              rw [← hL2] at hM6
              clear hL2 hc2
              rw [← hXC] at t6 hM6
              have hXd : XC.dead = false := by rw [hXC]; exact hSd
              have hXl : XC.las.length = 16 := by rw [hXC]; show (pl _ _).length = 16; rw [pl_len]; exact hSl
              have hXr : XC.row = [] := by rw [hXC]; rfl
              have XX := hid (And.intro hXd (And.intro hXl (And.intro hXr hM6)))
              have HI6 := hid (And.intro t6 (And.intro (Alk.refl XC) (And.intro K6 (And.intro MY6 (And.intro (n6.not q4_ q3_.hM) (fun (i : Nat) (hi : i < 16) => n6.not (q5_ i hi).1 (q3_.yes i hi).lt))))))
              clear t6 s6 n6 K6 MY6 hXC hM6 hXd hXl hXr q1_ q2_ q3_ q4_ q5_ HI hSr hMC hSd hSl KE
              go_wp2_with fail
              go_loopw [108] (fun i wr => ∃ (k : Nat) (T1 : List Nat) (Xa : MS), k ≤ 16 ∧ i = .int .i64 k ∧ Hid (Ow w wr x T1 Xa ∧ Alk Xa XC ∧ Kp w wr ∧ May wr MB 16 c2 f (may F2.now L2) ∧ MB ∉ T1 ∧ ∀ i, i < 16 → f i ∉ T1)) (fun i _ => 16 - (intOf i).toNat)
              case atStart => exact ⟨0, T6, XC, by omega, by go_num, HI6⟩
              case round =>
                clear HI6
                obtain ⟨k, T1, Xa, hk, rfl, HI⟩ := hrel
                by_cases hlt : k < 16
                · obtain ⟨q1_, q2_, q3_, q4_, q5_, q6_⟩ := HI.out
                  have hrc : rcE Xa (k : Int) = 0 := rc_in (by rw [q2_.dead]; exact XX.out.1) (by rw [q2_.las, XX.out.2.1]; exact hlt)
                  have hrd : rdS Xa (k : Int) = XC.now.getD k noS := by rw [rd_in (by rw [q2_.dead]; exact XX.out.1) (by rw [q2_.las, XX.out.2.1]; exact hlt), q2_.now]
                  have hsz : (XC.now.getD k noS).size ≤ 64 := by
                    rw [← q2_.now]
                    exact Nat.le_of_eq (q1_.fine.bn _ (getD_mem (by rw [q1_.fine.nn, q2_.las, XX.out.2.1]; exact hlt)))
                  have hin := XX.out.2.2.2 k
                  obtain ⟨V, hV⟩ : ∃ V, V = XC.now.getD k noS := ⟨_, rfl⟩
                  rw [← hV] at hrd hsz hin
                  clear hV
                  go_wp2_with fail
                  refine (Ry.call q3_ q1_.new (Ry.refl q1_) (fun P o K => ow_read o K (k : Int))).mono ?_
                  rintro e w6 ⟨rfl, T6, t6, s6, n6⟩
                  rw [hrc, hrd]
                  have MY6 := q4_.sp s6 q5_ q6_
                  have lk := (MY6.yes k hlt).look V hsz hin
                  have cc := MY6.cell k hlt
                  have HI7 := hid (And.intro t6 (And.intro (q2_.rd (k : Int)) (And.intro (Sp.kp q3_ s6 q1_.new) (And.intro MY6 (And.intro (n6.not q5_ q4_.hM) (fun (i : Nat) (hi : i < 16) => n6.not (q6_ i hi) (q4_.yes i hi).lt))))))
                  obtain ⟨fk, hfk⟩ : ∃ fk, fk = f k := ⟨_, rfl⟩
                  rw [← hfk] at lk cc
                  clear hfk t6 s6 n6 MY6 hrc hrd hsz hin q1_ q2_ q3_ q4_ q5_ q6_ HI
                  go_wp2
                  go_roundw
                  case rel => exact ⟨k + 1, T6, _, by omega, by go_num, HI7⟩
                  case measure => simp [intOf]; omega
                · obtain rfl : k = 16 := by omega
                  obtain ⟨q1_, q2_, q3_, q4_, q5_, q6_⟩ := HI.out
                  have hr0 : Xa.row.length = 0 := by rw [q2_.row, XX.out.2.2.1]; rfl
                  go_wp2_with fail
                  refine (ow_waiting q1_ q3_ (by omega)).mono ?_
                  rintro e w6 ⟨g, rfl, _, m6, _⟩
                  have K6 := m6.kp q1_ q3_
                  rw [hr0]
                  clear hr0 m6 q1_ q2_ q3_ q4_ q5_ q6_ HI
                  go_wp2
                  go_ret
                  exact ⟨rfl, K6⟩
theorem walk (w : World) (a0 : Value) (l0 : List AC) (a1 : Value) (l1 : List AC) (a2 : Value) (l2 : List Nat) (w0 : ActsIn w a0 l0) (w1 : ActsIn w a1 l1) (w2 : KeIn w a2 l2) (x2 : ∀ a n c, a2 = .slice a n c → n ≤ c) :
    Calls Try.prog 4 #[a0, a1, a2] w fun e w' => e = .returned (.bool true) ∧ Kp w w' := by
  exact walkN w a0 l0 a1 l1 a2 l2 w0 w1 w2 x2

set_option maxRecDepth 100000 in
theorem lifted (os : Os) (started : os.Started) (H : Type) (enc : TypeId × Value → H) :
    ReturnsInHanded {} Try.checked os 4 .any (Rows.memberLastsSpec.pre6 enc Try.prog Try.f4 Rows.memberLastsRow.domain false) (Rows.memberLastsSpec.post enc Try.prog Try.f4 false true false false) := by
  refine returnsInHanded_of_change (C := Try.checked) own started (by kernel_rfl) Try.func4
    (ChangeSpec.witness6 (enc := enc) (C := Try.checked) false ⟨#[], #[.slice none 0 0, .slice none 0 0, .slice none 0 0], []⟩ 8 (by kernel_rfl) (by kernel_rfl) (by kernel_rfl) (by kernel_rfl)) ?_
  intro W base args ds gs before hval0 hW hcnd _
  have hval : ∀ (j : Nat) t v, Try.f4.params[j]? = some t → args[j]? = some v → Value.okWide Try.prog W .any base t v := hval0
  have hW' := hW
  have hlt := hW.lt
  obtain ⟨p, q, hA0, hV, rfl, hfz, hnd⟩ := hW
  have hA : DataW.TrodAll enc Try.prog W 0 (fun _ => true) true Try.f4.params.toList args.toList ds p := hA0
  have hAk := hA
  rw [Try.params4] at hA hval
  obtain ⟨v0, vs0, d0, ds0, p0, q0, hargs, rfl, rfl, h0, r0⟩ := trodAll_cons hA
  obtain ⟨v1, vs1, d1, ds1, p1, q1, rfl, rfl, rfl, h1, r1⟩ := trodAll_cons r0
  obtain ⟨v2, vs2, d2, ds2, p2, q2, rfl, rfl, rfl, h2, r2⟩ := trodAll_cons r1
  obtain ⟨rfl, rfl, rfl⟩ := trodAll_nil r2
  obtain rfl : args = #[v0, v1, v2] := by cases args; simp_all
  obtain ⟨rfl, rfl⟩ := trodVars_none hV
  obtain ⟨l0, w0⟩ := open_acts (hval 0 22 v0 rfl rfl) h0
  obtain ⟨l1, w1⟩ := open_acts (hval 1 22 v1 rfl rfl) h1
  obtain ⟨l2, w2, x2⟩ := open_kept2 (hval 2 29 v2 rfl rfl) h2
  clear hA0 hval0
  simp only [List.append_nil] at hW' hAk hlt
  refine (walk W v0 l0 v1 l1 v2 l2 w0 w1 w2 x2).mono fun e W' ⟨he, hg⟩ => ?_
  subst he
  exact ⟨_, rfl, post_kp (pv := []) hW' (fun _ _ _ => (trodAll_cons_mk (shut_bool Try.underlying4 _) trodAll_mk0)) (fun sp hsp => trodAll_stays laidOut (by rw [Try.params4]; exact of_decide_eq_true (by kernel_rfl)) hAk (fun x hx => Below.same hg (hlt x hx)) hsp) (fun _ _ => rfl) (by simp) hg⟩

theorem over : Rows.memberLastsRow.holds Try.pinned (OpenSpec.ofChange Rows.memberLastsSpec) :=
  OpenClaim.holds_of_wide 4 Try.f4 rfl rfl rfl rfl rfl rfl rfl ⟨rfl, rfl, rfl, rfl, rfl⟩ rfl rfl rfl rfl rfl (by kernel_rfl) Try.func4 (by kernel_rfl)
    (of_decide_eq_true (by kernel_rfl)) (by unfold Func.isWrapper; first | (rw [if_pos (by decide +kernel)]; kernel_rfl) | (rw [if_neg (by decide +kernel)]; exact ⟨rfl, rfl⟩))
    (fun os started H enc _ => lifted os started H enc)

end Go.Proofs.Ytohakbhjkhhcaaa.memberLasts
namespace Go.Proofs.Ytohakbhjkhhcaaa
theorem memberLasts_holds : Rows.MemberLastsSaid := memberLasts.over
end Go.Proofs.Ytohakbhjkhhcaaa
