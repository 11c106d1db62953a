/-
  CachePlays: for every input the law answers true, and its arguments read as before. Condition: that the table of math/bits reads as it is listed.
-/
import Derived.Test.YtncdidklgpmefaaDoorRows
import Derived.Test.YtncdidklgpmefaaDoorCards
import Derived.Test.YtncdidklgpmefaaDoorTie
import Derived.Test.YtncdidklgpmefaaDoorCaDoor
import Derived.Test.YtncdidklgpmefaaDoorZCaR
import Derived.WalkKit
import Derived.ProofKit
import Derived.OpenShut
import Derived.ShutString
import Derived.LaidMore
import Derived.SevenTiedAt
import Derived.Stop.Joined
import Derived.Deep.QuietTactic
import Derived.BigQuiet
import Derived.Deep.RegionWith
import Derived.Deep.RegionHeld3
import Derived.Deep.DeepCutAuto
import Derived.Deep.CutBlock
namespace Go.Proofs.YtncdidklgpmefaaDoor.cachePlays
open Go.ChangeShapes Go.WideShapes Go.ChangeAt Go.RowKit
open Go.ChangeMaps (open_string shut_string)
open Go.Proofs.YtncdidklgpmefaaDoor Plain
set_option linter.unusedVariables false

theorem own : ownKnob Tryd.prog.godebug = none := by kernel_rfl
theorem laidOut : laidOutB Tryd.prog = true := by kernel_rfl
theorem cellsI : Tryd.prog.cellsOf 3 = 1 := by kernel_rfl
theorem cellsK : Tryd.prog.cellsOf 22 = 3 := by kernel_rfl
set_option maxRecDepth 100000 in
set_option maxHeartbeats 8000000 in
theorem walk (w : World) (hT : Tab w) (a0 b0 c0 : Int) (a1 : Value) (l1 : List A4c) (w0 : (Lit.int .i64 a0).wf = true) (x0 : (Lit.int .i64 b0).wf = true) (y0 : (Lit.int .i64 c0).wf = true) (w1 : Acts w a1 l1) :
    Calls Tryd.prog 3 #[.agg #[.int .i64 a0, .int .i64 b0, .int .i64 c0], a1] w fun e w' => e = .returned (.bool true) ∧ Kp w w' := by
  clear w0 x0 y0
  obtain ⟨pa, pg, po, pc, ln, rfl, hp1, hp2, hpa, hpc⟩ := w1.open
  have HPC := hid hpc
  have HT : Hid (Tab w) := hT
  obtain ⟨W, hW⟩ : ∃ W, W = w.alloc (.cells #[.int .i64 a0, .int .i64 b0, .int .i64 c0] 22) := ⟨_, rfl⟩
  obtain ⟨HH, hH⟩ : ∃ H, H = w.heap.size := ⟨_, rfl⟩
  have hB : W.heap[HH]? = some (.cells #[.int .i64 a0, .int .i64 b0, .int .i64 c0] 22 (0, 0)) := by rw [hW, hH]; exact new_obj _ _ _
  have e0 := cell_of hB 0
  have e1 := cell_of hB 1
  have e2 := cell_of hB 2
  have HW : Hid (W = w.alloc (.cells #[.int .i64 a0, .int .i64 b0, .int .i64 c0] 22) ∧ HH = w.heap.size) := ⟨hW, hH⟩
  have HK : Hid (Kp w W) := by rw [hW]; exact (Kp.refl w).alloc _
  clear hpc hW hH hB w1 hT
  by_cases hok : newOk a0 b0 ∧ 2 ≤ c0 ∧ c0 ≤ 30
  case neg =>
    have hN := cnew_no hok W
    have hN2 := fun V => dnew_no hok V
    clear hok HPC hpa hp1 hp2 HT
    go_enter Tryd.func3, Tryd.ntmps3
    go_upto_region 1 with fail
    rw [← HW.out.1, ← HW.out.2]
    clear HW
    go_wp2_with fail
    refine hN.mono ?_; rintro e u1 ⟨rfl, k1⟩
    have hN2 := hN2 u1
    have e0 := k1.held e0
    have e1 := k1.held e1
    have e2 := k1.held e2
    have HK1 := hid (HK.out.trans k1)
    clear hN k1 HK
    go_wp2_with fail
    refine hN2.mono ?_; rintro e u2 ⟨rfl, k2⟩
    have HK2 := hid (HK1.out.trans k2)
    clear hN2 k2 HK1 e0 e1 e2
    go_wp2_with fail
    refine (wakes_any u2).mono ?_; rintro e u3 ⟨rfl, k3⟩
    have HK3 := hid (HK2.out.trans k3)
    clear HK2 k3
    go_wp2_with fail
    refine (nget 0 0 u3).mono ?_; rintro e u4 ⟨rfl, k4⟩
    have HK4 := hid (HK3.out.trans k4)
    clear HK3 k4
    go_wp2_with fail
    refine (nput 0 0 _ u4).mono ?_; rintro e u5 ⟨rfl, k5⟩
    have HK5 := hid (HK4.out.trans k5)
    clear HK4 k5
    go_wp2_with fail
    refine (nfill 0 0 _ u5).mono ?_; rintro e u6 ⟨rfl, k6⟩
    have HK6 := hid (HK5.out.trans k6)
    clear HK5 k6
    go_wp2_with fail
    refine (ndone 0 u6).mono ?_; rintro e u7 ⟨rfl, k7⟩
    have HK7 := hid (HK6.out.trans k7)
    clear HK6 k7
    go_wp2_with fail
    refine (ndropC 0 u7).mono ?_; rintro e u8 ⟨rfl, k8⟩
    have HK8 := hid (HK7.out.trans k8)
    clear HK7 k8
    go_wp2_with fail
    refine (ndirty u8).mono ?_; rintro e u9 ⟨rfl, k9⟩
    have HK9 := hid (HK8.out.trans k9)
    clear HK8 k9
    go_wp2
    go_ret
    exact ⟨rfl, HK9.out⟩
  case pos =>
  obtain ⟨kk, ekk⟩ : ∃ k, k = min ln 80 := ⟨_, rfl⟩
  have hmin : ∀ ts t W, (Builtin.min_ ts t #[.int .i64 (ln : Int), .int .i64 80]).run Tryd.prog W = .ok (.int .i64 (kk : Int)) W := fun ts t W => by
    rw [imin ts t _ _ W]
    congr 2
    omega
  have hk1 : kk ≤ ln := by omega
  have hk80 : kk ≤ 80 := by omega
  have hN := cnew_ok hok.1 hok.2.1 hok.2.2 W
  have HOK := hid hok
  clear ekk hok
  go_enter Tryd.func3, Tryd.ntmps3
  go_upto_region 1 with fail
  rw [← HW.out.1, ← HW.out.2]
  clear HW
  go_wp2_with fail
  refine hN.mono ?_; rintro e u1 ⟨c, rfl, x1⟩
  clear hN
  have hN2 := dnew_ok HOK.out.1 HOK.out.2.1 HOK.out.2.2 w u1 (Nat.le_trans HK.out.size x1.k.size)
  have H1 : Hid (Ca w u1 c 0 (newC a0 b0 c0) []) := x1.base HK.out
  have e0 := x1.k.held e0
  have e1 := x1.k.held e1
  have e2 := x1.k.held e2
  clear x1
  go_wp2_with fail
  refine hN2.mono ?_; rintro e u2 ⟨r, Y, D, rfl, x2, d2, q1, q2, k2, t2⟩
  have HZ2 : Hid (Pz w u2 c r 0 (newC a0 b0 c0)) := Pz.new H1.out k2 x2 d2 q1 q2 t2
  clear hN2 x2 d2 q1 q2 k2 t2 H1 HOK e0 e1 e2 HK
  go_wp2_with fail
  refine (wakes_any u2).mono ?_; rintro e U ⟨rfl, k3⟩
  have H0 : Hid (Pz w U c r 0 (newC a0 b0 c0)) := HZ2.out.kp k3
  clear k3 HZ2
  go_upto_region 8 with fail
  go_cut [92, 93, 94] (fun p qq i wx => ∃ a', p = .slice a' kk pc ∧ qq = .int .i64 (kk : Int) ∧ i = .int .i64 ((0 : Nat) : Int) ∧ (0 < kk → a' = some ⟨pg, po, none⟩) ∧ U = wx)
  case first =>
    by_cases h0 : 0 < ln
    · obtain rfl := hpa h0
      go_wp2_with fail
      go_meet
      exact ⟨_, rfl, rfl, rfl, fun _ => rfl, rfl⟩
    · have hn0 : ln = 0 := by omega
      subst hn0
      obtain rfl : kk = 0 := by omega
      cases pa with
      | none =>
        go_wp2_with fail
        go_meet
        exact ⟨_, rfl, rfl, rfl, fun h => absurd h (by omega), rfl⟩
      | some ad =>
        go_wp2_with fail
        go_meet
        exact ⟨_, rfl, rfl, rfl, fun h => absurd h (by omega), rfl⟩
  case rest =>
  obtain ⟨a', rfl, rfl, rfl, ha', rfl⟩ := hcut
  clear hmin hpa
  go_wp2_with fail
  go_loopw [12, 13, 14, 15, 16, 17, 18, 94] (fun _ _ _ _ _ _ _ i wr => ∃ (k : Nat) (C : CS), k ≤ kk ∧ i = .int .i64 k ∧ Hid (Pz w wr c r k C)) (fun _ _ _ _ _ _ _ i _ => kk - (intOf i).toNat)
  case atStart => exact ⟨0, newC a0 b0 c0, by omega, by go_num, H0⟩
  case round =>
    clear H0
    obtain ⟨k, C, hk, rfl, HQ⟩ := hrel
    rename World => wr
    by_cases hlt : k < kk
    · obtain rfl := ha' (by omega)
      obtain ⟨⟨c0', c1, c2, c3, c4⟩, hok⟩ := HPC.out wr HQ.out.k k (by omega)
      obtain ⟨dd, hdd⟩ : ∃ z, z = (l1.getD k noA).d := ⟨_, rfl⟩
      obtain ⟨ky, hky⟩ : ∃ z, z = (l1.getD k noA).k := ⟨_, rfl⟩
      obtain ⟨kc, hkc⟩ : ∃ z, z = (l1.getD k noA).c := ⟨_, rfl⟩
      obtain ⟨bb, hbb⟩ : ∃ z, z = (l1.getD k noA).b := ⟨_, rfl⟩
      obtain ⟨oo, hoo⟩ : ∃ z, z = (l1.getD k noA).o := ⟨_, rfl⟩
      have hb256 : bb < 256 := by rw [hbb]; exact hok.b
      have HI : Hid (iOk ky) := by rw [hky]; exact hok.k
      rw [← hdd] at c0'
      rw [← hky] at c1
      rw [← hkc] at c2
      rw [← hbb] at c3
      rw [← hoo] at c4
      obtain ⟨V, hV⟩ : ∃ V, V = wr.alloc (.cells #[.int .i64 dd, .int .i64 ky, .int .i64 kc, .int .u8 (bb : Int), .bool oo] 39) := ⟨_, rfl⟩
      obtain ⟨H, hH⟩ : ∃ H, H = wr.heap.size := ⟨_, rfl⟩
      have HV : Hid (V = wr.alloc (.cells #[.int .i64 dd, .int .i64 ky, .int .i64 kc, .int .u8 (bb : Int), .bool oo] 39) ∧ H = wr.heap.size) := ⟨hV, hH⟩
      have HB0 : Hid (Pm w V c r C C k k H #[.int .i64 dd, .int .i64 ky, .int .i64 kc, .int .u8 (bb : Int), .bool oo] 39) := by
        show Pm _ _ _ _ _ _ _ _ _ _ _
        rw [hV, hH]; exact HQ.out.box _ _
      have e3 := cell_of HB0.out.at 3
      have e4 := cell_of HB0.out.at 4
      obtain ⟨s, hs⟩ : ∃ s, s = scS bb oo := ⟨_, rfl⟩
      have sS := sector_any bb hb256 oo V
      rw [← hs] at sS
      clear hdd hky hkc hbb hoo hV hH HQ hok hb256 hs
      go_upto_region 11 with fail
      rw [← HV.out.1, ← HV.out.2]
      clear HV c0' c1 c2 c3 c4
      go_wp2_with fail
      refine sS.mono ?_; rintro e V1 ⟨rfl, k1⟩
      have HB : Hid (Pm w V1 c r C C k k H #[.int .i64 dd, .int .i64 ky, .int .i64 kc, .int .u8 (bb : Int), .bool oo] 39) := HB0.out.kp k1
      have e0 : V1.cell? ⟨H, 0, none⟩ = some (.int .i64 dd) := cell_of HB.out.at 0
      clear sS k1 HB0 e3 e4
      have hm7 := mask7 dd
      obtain ⟨m7, hmm⟩ : ∃ m, m = dd % 8 := ⟨_, rfl⟩
      rw [← hmm] at hm7
      have H7 : m7 = 2 ∨ m7 = 3 ∨ m7 = 4 ∨ m7 = 7 ∨ m7 = 5 ∨ m7 = 6 ∨ m7 = 0 ∨ m7 = 1 := by omega
      clear hmm
      rcases H7 with rfl | rfl | rfl | rfl | rfl | rfl | rfl | rfl
      · obtain ⟨ee, hee⟩ : ∃ ee, ee = ptE C ky kc s.size := ⟨_, rfl⟩
        have hr0 : Pm w V1 c r C C k k H #[.int .i64 dd, .int .i64 ky, .int .i64 kc, .int .u8 (bb : Int), .bool oo] 39 := HB.out
        have hr1 : Pm w V1.drew c r C C k k H #[.int .i64 dd, .int .i64 ky, .int .i64 kc, .int .u8 (bb : Int), .bool oo] 39 := HB.out.kp ((Kp.refl V1).drew)
        have hS : ∀ C0 S' p q X, Pm w X c r C0 S' p q H #[.int .i64 dd, .int .i64 ky, .int .i64 kc, .int .u8 (bb : Int), .bool oo] 39 → X.cell? ⟨H, 1, none⟩ = some (.int .i64 ky) ∧ X.cell? ⟨H, 2, none⟩ = some (.int .i64 kc) := fun C0 S' p q X h => ⟨cell_of h.at 1, cell_of h.at 2⟩
        have cP1 : ∀ X, Pm w X c r C C k k H #[.int .i64 dd, .int .i64 ky, .int .i64 kc, .int .u8 (bb : Int), .bool oo] 39 → Calls Tryd.prog 10 #[.pointer (some ⟨c, 0, none⟩), .int .i64 ky, .int .i64 kc, .string s] X fun e X' => e = .returned (.int .i64 ee) ∧ Pm w X' c r C (flC C ky kc s) (k + 1) k H #[.int .i64 dd, .int .i64 ky, .int .i64 kc, .int .u8 (bb : Int), .bool oo] 39 := fun X h => by rw [hee]; exact h.fill (by omega) ky kc s
        have cP2 : ∀ X, Pm w X c r C (flC C ky kc s) (k + 1) k H #[.int .i64 dd, .int .i64 ky, .int .i64 kc, .int .u8 (bb : Int), .bool oo] 39 → Calls Tryd.prog 15 #[.pointer (some ⟨r, 0, none⟩), .int .i64 ky, .int .i64 kc, .string s] X fun e X' => e = .returned (.int .i64 ee) ∧ Pm w X' c r (flC C ky kc s) (flC C ky kc s) (k + 1) (k + 1) H #[.int .i64 dd, .int .i64 ky, .int .i64 kc, .int .u8 (bb : Int), .bool oo] 39 := fun X h => by rw [hee]; exact Pm.rfill ky kc s h (by omega)
        have hbe : (ee == ee) = true := by simp
        clear hee HB
        go_upto_region 17 with fail
        go_region_held3 (fun X => X.cell? ⟨H, 1, none⟩ = some (.int .i64 ky) ∧ X.cell? ⟨H, 2, none⟩ = some (.int .i64 kc)) (exact hS _ _ _ _ _ (by assumption)) (first
          | (go_at_call 10; refine (cP1 _ (by assumption)).mono ?_; rintro e vb ⟨rfl, kb⟩)
          | (go_at_call 15; refine (cP2 _ (by assumption)).mono ?_; rintro e X ⟨rfl, kd⟩))
        have HE : Hid (Pm w X c r (flC C ky kc s) (flC C ky kc s) (k + 1) (k + 1) H #[.int .i64 dd, .int .i64 ky, .int .i64 kc, .int .u8 (bb : Int), .bool oo] 39) := kd
        obtain ⟨C', hC'⟩ : ∃ C' : CS, C' = flC C ky kc s := ⟨_, rfl⟩
        rw [← hC'] at HE
        clear cP1 cP2 hS hr0 hr1 kd hC' e0
        have e1 := cell_of HE.out.at 1
        have e2 := cell_of HE.out.at 2
        have hSm := HE.out.same (by omega) HT.out HI.out kc
        clear HE
        go_wp2_with fail
        refine hSm.mono ?_; rintro e v3 ⟨rfl, p3⟩
        have HE3 : Hid (Pz w v3 c r (k + 1) C') := p3.pz
        clear hSm p3 e1 e2
        go_wp2
        go_roundw
        case rel => first | exact ⟨k + 1, C', by omega, by go_num, HE3⟩ | (repeat apply Exists.intro) <;> exact ⟨⟨k + 1, C', by omega, by go_num, HE3⟩, rfl⟩
        case measure => simp [intOf]; omega
      · obtain ⟨ee, hee⟩ : ∃ ee, ee = ptE C ky kc s.size := ⟨_, rfl⟩
        have hr0 : Pm w V1 c r C C k k H #[.int .i64 dd, .int .i64 ky, .int .i64 kc, .int .u8 (bb : Int), .bool oo] 39 := HB.out
        have hr1 : Pm w V1.drew c r C C k k H #[.int .i64 dd, .int .i64 ky, .int .i64 kc, .int .u8 (bb : Int), .bool oo] 39 := HB.out.kp ((Kp.refl V1).drew)
        have hS : ∀ C0 S' p q X, Pm w X c r C0 S' p q H #[.int .i64 dd, .int .i64 ky, .int .i64 kc, .int .u8 (bb : Int), .bool oo] 39 → X.cell? ⟨H, 1, none⟩ = some (.int .i64 ky) ∧ X.cell? ⟨H, 2, none⟩ = some (.int .i64 kc) := fun C0 S' p q X h => ⟨cell_of h.at 1, cell_of h.at 2⟩
        have cP1 : ∀ X, Pm w X c r C C k k H #[.int .i64 dd, .int .i64 ky, .int .i64 kc, .int .u8 (bb : Int), .bool oo] 39 → Calls Tryd.prog 10 #[.pointer (some ⟨c, 0, none⟩), .int .i64 ky, .int .i64 kc, .string s] X fun e X' => e = .returned (.int .i64 ee) ∧ Pm w X' c r C (flC C ky kc s) (k + 1) k H #[.int .i64 dd, .int .i64 ky, .int .i64 kc, .int .u8 (bb : Int), .bool oo] 39 := fun X h => by rw [hee]; exact h.fill (by omega) ky kc s
        have cP2 : ∀ X, Pm w X c r C (flC C ky kc s) (k + 1) k H #[.int .i64 dd, .int .i64 ky, .int .i64 kc, .int .u8 (bb : Int), .bool oo] 39 → Calls Tryd.prog 15 #[.pointer (some ⟨r, 0, none⟩), .int .i64 ky, .int .i64 kc, .string s] X fun e X' => e = .returned (.int .i64 ee) ∧ Pm w X' c r (flC C ky kc s) (flC C ky kc s) (k + 1) (k + 1) H #[.int .i64 dd, .int .i64 ky, .int .i64 kc, .int .u8 (bb : Int), .bool oo] 39 := fun X h => by rw [hee]; exact Pm.rfill ky kc s h (by omega)
        have hbe : (ee == ee) = true := by simp
        clear hee HB
        go_upto_region 17 with fail
        go_region_held3 (fun X => X.cell? ⟨H, 1, none⟩ = some (.int .i64 ky) ∧ X.cell? ⟨H, 2, none⟩ = some (.int .i64 kc)) (exact hS _ _ _ _ _ (by assumption)) (first
          | (go_at_call 10; refine (cP1 _ (by assumption)).mono ?_; rintro e vb ⟨rfl, kb⟩)
          | (go_at_call 15; refine (cP2 _ (by assumption)).mono ?_; rintro e X ⟨rfl, kd⟩))
        have HE : Hid (Pm w X c r (flC C ky kc s) (flC C ky kc s) (k + 1) (k + 1) H #[.int .i64 dd, .int .i64 ky, .int .i64 kc, .int .u8 (bb : Int), .bool oo] 39) := kd
        obtain ⟨C', hC'⟩ : ∃ C' : CS, C' = flC C ky kc s := ⟨_, rfl⟩
        rw [← hC'] at HE
        clear cP1 cP2 hS hr0 hr1 kd hC' e0
        have e1 := cell_of HE.out.at 1
        have e2 := cell_of HE.out.at 2
        have hSm := HE.out.same (by omega) HT.out HI.out kc
        clear HE
        go_wp2_with fail
        refine hSm.mono ?_; rintro e v3 ⟨rfl, p3⟩
        have HE3 : Hid (Pz w v3 c r (k + 1) C') := p3.pz
        clear hSm p3 e1 e2
        go_wp2
        go_roundw
        case rel => first | exact ⟨k + 1, C', by omega, by go_num, HE3⟩ | (repeat apply Exists.intro) <;> exact ⟨⟨k + 1, C', by omega, by go_num, HE3⟩, rfl⟩
        case measure => simp [intOf]; omega
      · have hG := HB.out.get HI.out kc
        have e1 := cell_of HB.out.at 1
        have e2 := cell_of HB.out.at 2
        obtain ⟨gs, hgs⟩ : ∃ s, s = (C.H ky).n kc := ⟨_, rfl⟩
        obtain ⟨gb, hgb⟩ : ∃ b, b = isS gs := ⟨_, rfl⟩
        rw [← hgs, ← hgb] at hG
        have HG := hid (And.intro hgs hgb)
        clear hgs hgb HB
        go_wp2_with fail
        refine hG.mono ?_; rintro e v1 ⟨rfl, p1⟩
        have hG2 := Pm.rget ky kc p1 (by omega)
        rw [← HG.out.1, ← HG.out.2] at hG2
        have e1 := cell_of p1.at 1
        have e2 := cell_of p1.at 2
        clear hG p1 e0 HG
        go_wp2_with fail
        refine hG2.mono ?_; rintro e X ⟨rfl, p3⟩
        have HE : Hid (Pm w X c r (gtC C ky kc) (gtC C ky kc) (k + 1) (k + 1) H #[.int .i64 dd, .int .i64 ky, .int .i64 kc, .int .u8 (bb : Int), .bool oo] 39) := p3
        obtain ⟨C', hC'⟩ : ∃ C' : CS, C' = gtC C ky kc := ⟨_, rfl⟩
        rw [← hC'] at HE
        have hbb : (gb == gb) = true := by simp
        clear hG2 p3 hC' e1 e2
        have e1 := cell_of HE.out.at 1
        have e2 := cell_of HE.out.at 2
        have hSm := HE.out.same (by omega) HT.out HI.out kc
        clear HE
        go_wp2_with fail
        refine hSm.mono ?_; rintro e v3 ⟨rfl, p3⟩
        have HE3 : Hid (Pz w v3 c r (k + 1) C') := p3.pz
        clear hSm p3 e1 e2
        go_wp2
        go_roundw
        case rel => first | exact ⟨k + 1, C', by omega, by go_num, HE3⟩ | (repeat apply Exists.intro) <;> exact ⟨⟨k + 1, C', by omega, by go_num, HE3⟩, rfl⟩
        case measure => simp [intOf]; omega
      · have hG := HB.out.get HI.out kc
        have e1 := cell_of HB.out.at 1
        have e2 := cell_of HB.out.at 2
        obtain ⟨gs, hgs⟩ : ∃ s, s = (C.H ky).n kc := ⟨_, rfl⟩
        obtain ⟨gb, hgb⟩ : ∃ b, b = isS gs := ⟨_, rfl⟩
        rw [← hgs, ← hgb] at hG
        have HG := hid (And.intro hgs hgb)
        clear hgs hgb HB
        go_wp2_with fail
        refine hG.mono ?_; rintro e v1 ⟨rfl, p1⟩
        have hG2 := Pm.rget ky kc p1 (by omega)
        rw [← HG.out.1, ← HG.out.2] at hG2
        have e1 := cell_of p1.at 1
        have e2 := cell_of p1.at 2
        clear hG p1 e0 HG
        go_wp2_with fail
        refine hG2.mono ?_; rintro e X ⟨rfl, p3⟩
        have HE : Hid (Pm w X c r (gtC C ky kc) (gtC C ky kc) (k + 1) (k + 1) H #[.int .i64 dd, .int .i64 ky, .int .i64 kc, .int .u8 (bb : Int), .bool oo] 39) := p3
        obtain ⟨C', hC'⟩ : ∃ C' : CS, C' = gtC C ky kc := ⟨_, rfl⟩
        rw [← hC'] at HE
        have hbb : (gb == gb) = true := by simp
        clear hG2 p3 hC' e1 e2
        have e1 := cell_of HE.out.at 1
        have e2 := cell_of HE.out.at 2
        have hSm := HE.out.same (by omega) HT.out HI.out kc
        clear HE
        go_wp2_with fail
        refine hSm.mono ?_; rintro e v3 ⟨rfl, p3⟩
        have HE3 : Hid (Pz w v3 c r (k + 1) C') := p3.pz
        clear hSm p3 e1 e2
        go_wp2
        go_roundw
        case rel => first | exact ⟨k + 1, C', by omega, by go_num, HE3⟩ | (repeat apply Exists.intro) <;> exact ⟨⟨k + 1, C', by omega, by go_num, HE3⟩, rfl⟩
        case measure => simp [intOf]; omega
      · obtain ⟨ee, hee⟩ : ∃ ee, ee = inT C.S ky := ⟨_, rfl⟩
        have hr0 : Pm w V1 c r C C k k H #[.int .i64 dd, .int .i64 ky, .int .i64 kc, .int .u8 (bb : Int), .bool oo] 39 := HB.out
        have hr1 : Pm w V1.drew c r C C k k H #[.int .i64 dd, .int .i64 ky, .int .i64 kc, .int .u8 (bb : Int), .bool oo] 39 := HB.out.kp ((Kp.refl V1).drew)
        have hS : ∀ C0 S' p q X, Pm w X c r C0 S' p q H #[.int .i64 dd, .int .i64 ky, .int .i64 kc, .int .u8 (bb : Int), .bool oo] 39 → X.cell? ⟨H, 1, none⟩ = some (.int .i64 ky) := fun C0 S' p q X h => cell_of h.at 1
        have cP1 : ∀ X, Pm w X c r C C k k H #[.int .i64 dd, .int .i64 ky, .int .i64 kc, .int .u8 (bb : Int), .bool oo] 39 → Calls Tryd.prog 11 #[.pointer (some ⟨c, 0, none⟩), .int .i64 ky] X fun e X' => e = .returned (.bool ee) ∧ Pm w X' c r C (dnC C ky) (k + 1) k H #[.int .i64 dd, .int .i64 ky, .int .i64 kc, .int .u8 (bb : Int), .bool oo] 39 := fun X h => by rw [hee]; exact h.done (by omega) HI.out
        have cP2 : ∀ X, Pm w X c r C (dnC C ky) (k + 1) k H #[.int .i64 dd, .int .i64 ky, .int .i64 kc, .int .u8 (bb : Int), .bool oo] 39 → Calls Tryd.prog 17 #[.pointer (some ⟨r, 0, none⟩), .int .i64 ky] X fun e X' => e = .returned (.bool ee) ∧ Pm w X' c r (dnC C ky) (dnC C ky) (k + 1) (k + 1) H #[.int .i64 dd, .int .i64 ky, .int .i64 kc, .int .u8 (bb : Int), .bool oo] 39 := fun X h => by rw [hee]; exact Pm.rdone ky h (by omega)
        have hbe : (ee == ee) = true := by simp
        clear hee HB
        go_upto_region 24 with fail
        go_region_held3 (fun X => X.cell? ⟨H, 1, none⟩ = some (.int .i64 ky)) (exact hS _ _ _ _ _ (by assumption)) (first
          | (go_at_call 11; refine (cP1 _ (by assumption)).mono ?_; rintro e vb ⟨rfl, kb⟩)
          | (go_at_call 17; refine (cP2 _ (by assumption)).mono ?_; rintro e X ⟨rfl, kd⟩))
        have HE : Hid (Pm w X c r (dnC C ky) (dnC C ky) (k + 1) (k + 1) H #[.int .i64 dd, .int .i64 ky, .int .i64 kc, .int .u8 (bb : Int), .bool oo] 39) := kd
        obtain ⟨C', hC'⟩ : ∃ C' : CS, C' = dnC C ky := ⟨_, rfl⟩
        rw [← hC'] at HE
        clear cP1 cP2 hS hr0 hr1 kd hC' e0
        have e1 := cell_of HE.out.at 1
        have e2 := cell_of HE.out.at 2
        have hSm := HE.out.same (by omega) HT.out HI.out kc
        clear HE
        go_wp2_with fail
        refine hSm.mono ?_; rintro e v3 ⟨rfl, p3⟩
        have HE3 : Hid (Pz w v3 c r (k + 1) C') := p3.pz
        clear hSm p3 e1 e2
        go_wp2
        go_roundw
        case rel => first | exact ⟨k + 1, C', by omega, by go_num, HE3⟩ | (repeat apply Exists.intro) <;> exact ⟨⟨k + 1, C', by omega, by go_num, HE3⟩, rfl⟩
        case measure => simp [intOf]; omega
      · obtain ⟨ee, hee⟩ : ∃ ee, ee = dpB C ky := ⟨_, rfl⟩
        have hr0 : Pm w V1 c r C C k k H #[.int .i64 dd, .int .i64 ky, .int .i64 kc, .int .u8 (bb : Int), .bool oo] 39 := HB.out
        have hr1 : Pm w V1.drew c r C C k k H #[.int .i64 dd, .int .i64 ky, .int .i64 kc, .int .u8 (bb : Int), .bool oo] 39 := HB.out.kp ((Kp.refl V1).drew)
        have hS : ∀ C0 S' p q X, Pm w X c r C0 S' p q H #[.int .i64 dd, .int .i64 ky, .int .i64 kc, .int .u8 (bb : Int), .bool oo] 39 → X.cell? ⟨H, 1, none⟩ = some (.int .i64 ky) := fun C0 S' p q X h => cell_of h.at 1
        have cP1 : ∀ X, Pm w X c r C C k k H #[.int .i64 dd, .int .i64 ky, .int .i64 kc, .int .u8 (bb : Int), .bool oo] 39 → Calls Tryd.prog 12 #[.pointer (some ⟨c, 0, none⟩), .int .i64 ky] X fun e X' => e = .returned (.bool ee) ∧ Pm w X' c r C (dpC C ky) (k + 1) k H #[.int .i64 dd, .int .i64 ky, .int .i64 kc, .int .u8 (bb : Int), .bool oo] 39 := fun X h => by rw [hee]; exact h.drop HI.out
        have cP2 : ∀ X, Pm w X c r C (dpC C ky) (k + 1) k H #[.int .i64 dd, .int .i64 ky, .int .i64 kc, .int .u8 (bb : Int), .bool oo] 39 → Calls Tryd.prog 18 #[.pointer (some ⟨r, 0, none⟩), .int .i64 ky] X fun e X' => e = .returned (.bool ee) ∧ Pm w X' c r (dpC C ky) (dpC C ky) (k + 1) (k + 1) H #[.int .i64 dd, .int .i64 ky, .int .i64 kc, .int .u8 (bb : Int), .bool oo] 39 := fun X h => by rw [hee]; exact Pm.rdrop ky h (by omega)
        have hbe : (ee == ee) = true := by simp
        clear hee HB
        go_upto_region 26 with fail
        go_region_held3 (fun X => X.cell? ⟨H, 1, none⟩ = some (.int .i64 ky)) (exact hS _ _ _ _ _ (by assumption)) (first
          | (go_at_call 12; refine (cP1 _ (by assumption)).mono ?_; rintro e vb ⟨rfl, kb⟩)
          | (go_at_call 18; refine (cP2 _ (by assumption)).mono ?_; rintro e X ⟨rfl, kd⟩))
        have HE : Hid (Pm w X c r (dpC C ky) (dpC C ky) (k + 1) (k + 1) H #[.int .i64 dd, .int .i64 ky, .int .i64 kc, .int .u8 (bb : Int), .bool oo] 39) := kd
        obtain ⟨C', hC'⟩ : ∃ C' : CS, C' = dpC C ky := ⟨_, rfl⟩
        rw [← hC'] at HE
        clear cP1 cP2 hS hr0 hr1 kd hC' e0
        have e1 := cell_of HE.out.at 1
        have e2 := cell_of HE.out.at 2
        have hSm := HE.out.same (by omega) HT.out HI.out kc
        clear HE
        go_wp2_with fail
        refine hSm.mono ?_; rintro e v3 ⟨rfl, p3⟩
        have HE3 : Hid (Pz w v3 c r (k + 1) C') := p3.pz
        clear hSm p3 e1 e2
        go_wp2
        go_roundw
        case rel => first | exact ⟨k + 1, C', by omega, by go_num, HE3⟩ | (repeat apply Exists.intro) <;> exact ⟨⟨k + 1, C', by omega, by go_num, HE3⟩, rfl⟩
        case measure => simp [intOf]; omega
      · obtain ⟨ee, hee⟩ : ∃ ee, ee = ptE C ky kc s.size := ⟨_, rfl⟩
        have hr0 : Pm w V1 c r C C k k H #[.int .i64 dd, .int .i64 ky, .int .i64 kc, .int .u8 (bb : Int), .bool oo] 39 := HB.out
        have hr1 : Pm w V1.drew c r C C k k H #[.int .i64 dd, .int .i64 ky, .int .i64 kc, .int .u8 (bb : Int), .bool oo] 39 := HB.out.kp ((Kp.refl V1).drew)
        have hS : ∀ C0 S' p q X, Pm w X c r C0 S' p q H #[.int .i64 dd, .int .i64 ky, .int .i64 kc, .int .u8 (bb : Int), .bool oo] 39 → X.cell? ⟨H, 1, none⟩ = some (.int .i64 ky) ∧ X.cell? ⟨H, 2, none⟩ = some (.int .i64 kc) := fun C0 S' p q X h => ⟨cell_of h.at 1, cell_of h.at 2⟩
        have cP1 : ∀ X, Pm w X c r C C k k H #[.int .i64 dd, .int .i64 ky, .int .i64 kc, .int .u8 (bb : Int), .bool oo] 39 → Calls Tryd.prog 9 #[.pointer (some ⟨c, 0, none⟩), .int .i64 ky, .int .i64 kc, .string s] X fun e X' => e = .returned (.int .i64 ee) ∧ Pm w X' c r C (ptC C ky kc s) (k + 1) k H #[.int .i64 dd, .int .i64 ky, .int .i64 kc, .int .u8 (bb : Int), .bool oo] 39 := fun X h => by rw [hee]; exact h.put (by omega) ky kc s
        have cP2 : ∀ X, Pm w X c r C (ptC C ky kc s) (k + 1) k H #[.int .i64 dd, .int .i64 ky, .int .i64 kc, .int .u8 (bb : Int), .bool oo] 39 → Calls Tryd.prog 19 #[.pointer (some ⟨r, 0, none⟩), .int .i64 ky, .int .i64 kc, .string s] X fun e X' => e = .returned (.int .i64 ee) ∧ Pm w X' c r (ptC C ky kc s) (ptC C ky kc s) (k + 1) (k + 1) H #[.int .i64 dd, .int .i64 ky, .int .i64 kc, .int .u8 (bb : Int), .bool oo] 39 := fun X h => by rw [hee]; exact Pm.rput ky kc s h (by omega)
        have hbe : (ee == ee) = true := by simp
        clear hee HB
        go_upto_region 14 with fail
        go_region_held3 (fun X => X.cell? ⟨H, 1, none⟩ = some (.int .i64 ky) ∧ X.cell? ⟨H, 2, none⟩ = some (.int .i64 kc)) (exact hS _ _ _ _ _ (by assumption)) (first
          | (go_at_call 9; refine (cP1 _ (by assumption)).mono ?_; rintro e vb ⟨rfl, kb⟩)
          | (go_at_call 19; refine (cP2 _ (by assumption)).mono ?_; rintro e X ⟨rfl, kd⟩))
        have HE : Hid (Pm w X c r (ptC C ky kc s) (ptC C ky kc s) (k + 1) (k + 1) H #[.int .i64 dd, .int .i64 ky, .int .i64 kc, .int .u8 (bb : Int), .bool oo] 39) := kd
        obtain ⟨C', hC'⟩ : ∃ C' : CS, C' = ptC C ky kc s := ⟨_, rfl⟩
        rw [← hC'] at HE
        clear cP1 cP2 hS hr0 hr1 kd hC' e0
        have e1 := cell_of HE.out.at 1
        have e2 := cell_of HE.out.at 2
        have hSm := HE.out.same (by omega) HT.out HI.out kc
        clear HE
        go_wp2_with fail
        refine hSm.mono ?_; rintro e v3 ⟨rfl, p3⟩
        have HE3 : Hid (Pz w v3 c r (k + 1) C') := p3.pz
        clear hSm p3 e1 e2
        go_wp2
        go_roundw
        case rel => first | exact ⟨k + 1, C', by omega, by go_num, HE3⟩ | (repeat apply Exists.intro) <;> exact ⟨⟨k + 1, C', by omega, by go_num, HE3⟩, rfl⟩
        case measure => simp [intOf]; omega
      · obtain ⟨ee, hee⟩ : ∃ ee, ee = ptE C ky kc s.size := ⟨_, rfl⟩
        have hr0 : Pm w V1 c r C C k k H #[.int .i64 dd, .int .i64 ky, .int .i64 kc, .int .u8 (bb : Int), .bool oo] 39 := HB.out
        have hr1 : Pm w V1.drew c r C C k k H #[.int .i64 dd, .int .i64 ky, .int .i64 kc, .int .u8 (bb : Int), .bool oo] 39 := HB.out.kp ((Kp.refl V1).drew)
        have hS : ∀ C0 S' p q X, Pm w X c r C0 S' p q H #[.int .i64 dd, .int .i64 ky, .int .i64 kc, .int .u8 (bb : Int), .bool oo] 39 → X.cell? ⟨H, 1, none⟩ = some (.int .i64 ky) ∧ X.cell? ⟨H, 2, none⟩ = some (.int .i64 kc) := fun C0 S' p q X h => ⟨cell_of h.at 1, cell_of h.at 2⟩
        have cP1 : ∀ X, Pm w X c r C C k k H #[.int .i64 dd, .int .i64 ky, .int .i64 kc, .int .u8 (bb : Int), .bool oo] 39 → Calls Tryd.prog 9 #[.pointer (some ⟨c, 0, none⟩), .int .i64 ky, .int .i64 kc, .string s] X fun e X' => e = .returned (.int .i64 ee) ∧ Pm w X' c r C (ptC C ky kc s) (k + 1) k H #[.int .i64 dd, .int .i64 ky, .int .i64 kc, .int .u8 (bb : Int), .bool oo] 39 := fun X h => by rw [hee]; exact h.put (by omega) ky kc s
        have cP2 : ∀ X, Pm w X c r C (ptC C ky kc s) (k + 1) k H #[.int .i64 dd, .int .i64 ky, .int .i64 kc, .int .u8 (bb : Int), .bool oo] 39 → Calls Tryd.prog 19 #[.pointer (some ⟨r, 0, none⟩), .int .i64 ky, .int .i64 kc, .string s] X fun e X' => e = .returned (.int .i64 ee) ∧ Pm w X' c r (ptC C ky kc s) (ptC C ky kc s) (k + 1) (k + 1) H #[.int .i64 dd, .int .i64 ky, .int .i64 kc, .int .u8 (bb : Int), .bool oo] 39 := fun X h => by rw [hee]; exact Pm.rput ky kc s h (by omega)
        have hbe : (ee == ee) = true := by simp
        clear hee HB
        go_upto_region 14 with fail
        go_region_held3 (fun X => X.cell? ⟨H, 1, none⟩ = some (.int .i64 ky) ∧ X.cell? ⟨H, 2, none⟩ = some (.int .i64 kc)) (exact hS _ _ _ _ _ (by assumption)) (first
          | (go_at_call 9; refine (cP1 _ (by assumption)).mono ?_; rintro e vb ⟨rfl, kb⟩)
          | (go_at_call 19; refine (cP2 _ (by assumption)).mono ?_; rintro e X ⟨rfl, kd⟩))
        have HE : Hid (Pm w X c r (ptC C ky kc s) (ptC C ky kc s) (k + 1) (k + 1) H #[.int .i64 dd, .int .i64 ky, .int .i64 kc, .int .u8 (bb : Int), .bool oo] 39) := kd
        obtain ⟨C', hC'⟩ : ∃ C' : CS, C' = ptC C ky kc s := ⟨_, rfl⟩
        rw [← hC'] at HE
        clear cP1 cP2 hS hr0 hr1 kd hC' e0
        have e1 := cell_of HE.out.at 1
        have e2 := cell_of HE.out.at 2
        have hSm := HE.out.same (by omega) HT.out HI.out kc
        clear HE
        go_wp2_with fail
        refine hSm.mono ?_; rintro e v3 ⟨rfl, p3⟩
        have HE3 : Hid (Pz w v3 c r (k + 1) C') := p3.pz
        clear hSm p3 e1 e2
        go_wp2
        go_roundw
        case rel => first | exact ⟨k + 1, C', by omega, by go_num, HE3⟩ | (repeat apply Exists.intro) <;> exact ⟨⟨k + 1, C', by omega, by go_num, HE3⟩, rfl⟩
        case measure => simp [intOf]; omega
    · go_wp2
      go_ret
      exact ⟨rfl, HQ.out.k⟩

set_option maxRecDepth 100000 in
theorem lifted (os : Os) (started : os.Started) (H : Type) (enc : TypeId × Value → H) :
    ReturnsInHanded {} Tryd.checked os 3 .any (fun w args => (Rows.cachePlaysSpec.pre enc Tryd.prog Tryd.f3 [] false w args ∧ laidMetH Tryd.prog lz w) ∧ sizedMet enc Tryd.prog Tryd.f3 (OpenSpec.ofChange Rows.cachePlaysSpec) false w args)
      (Rows.cachePlaysSpec.post enc Tryd.prog Tryd.f3 false true false false) := by
  refine returnsInHanded_of_change_and (C := Tryd.checked) (X := fun w _ => laidMetH Tryd.prog lz w) (fun _ _ _ hh h => h.of_heap hh) own started (by kernel_rfl) Tryd.func3
    (ChangeSpec.witness_shaped (enc := enc) (C := Tryd.checked) (os := os) (X := fun w _ => laidMetH Tryd.prog lz w) false (World.doorLaid Tryd.prog 400 os) #[.agg #[.int .i64 0, .int .i64 0, .int .i64 0], .slice none 0 0] 8 rfl (World.shaped_of_RefB (by kernel_rfl) (by kernel_rfl)) (by kernel_rfl) (by kernel_rfl) (by kernel_rfl) (door_met os _)) ?_
  intro W base args ds gs before hval0 hW hcnd _ hL _
  have hval : ∀ (j : Nat) t v, Tryd.f3.params[j]? = some t → args[j]? = some v → Value.okWide Tryd.prog W .any base t v := hval0
  have hW' := hW
  have hlt := hW.lt
  obtain ⟨p, q, hA0, hV, rfl, hfz, hnd⟩ := hW
  have hA : DataW.TrodAll enc Tryd.prog W 0 (fun _ => true) true Tryd.f3.params.toList args.toList ds p := hA0
  have hAk := hA
  rw [Tryd.params3] at hA hval
  obtain ⟨v0, vs0, d0, ds0, p0, q0, hargs, rfl, rfl, h0, r0⟩ := trodAll_cons hA
  obtain ⟨v1, vs1, d1, ds1, p1, q1, rfl, rfl, rfl, h1, r1⟩ := trodAll_cons r0
  obtain ⟨rfl, rfl, rfl⟩ := trodAll_nil r1
  obtain rfl : args = #[v0, v1] := by cases args; simp_all
  obtain ⟨rfl, rfl⟩ := trodVars_none hV
  obtain ⟨a0, b0, c0, rfl, w0, x0, y0⟩ := open_ints3 Tryd.underlying22 Tryd.underlying3 cellsI cellsK (hval 0 22 v0 rfl rfl) h0
  obtain ⟨l1, w1⟩ := open_as24 (hval 1 23 v1 rfl rfl) h1
  clear hA0 hval0
  simp only [List.append_nil] at hW' hAk hlt
  have hwk := walk W (of_laid hL) a0 b0 c0 v1 l1 w0 x0 y0 w1
  refine hwk.mono fun e W' ⟨he, hg⟩ => ?_
  subst he
  exact ⟨_, rfl, post_kp (pv := []) hW' (fun _ _ _ => (trodAll_cons_mk (shut_bool Tryd.underlying4 _) trodAll_mk0)) (fun sp hsp => trodAll_stays laidOut (by rw [Tryd.params3]; exact of_decide_eq_true (by kernel_rfl)) hAk (fun x hx => Below.same hg (hlt x hx)) hsp) (fun _ _ => rfl) (by simp) hg⟩

theorem over : Rows.cachePlaysRow.holds Tryd.pinned (OpenSpec.ofChange Rows.cachePlaysSpec) :=
  OpenClaim.holds_of_wide 3 Tryd.f3 rfl rfl rfl rfl rfl rfl rfl ⟨rfl, rfl, rfl, rfl, rfl⟩ rfl rfl rfl rfl rfl (by kernel_rfl) Tryd.func3 (by kernel_rfl)
    (of_decide_eq_true (by kernel_rfl)) (by unfold Func.isWrapper; first | (rw [if_pos (by decide +kernel)]; kernel_rfl) | (rw [if_neg (by decide +kernel)]; exact ⟨rfl, rfl⟩))
    (fun os started H enc _ => lifted os started H enc)

theorem card : Claim7.holds Tryd.pinned (.plain (OpenSpec.ofChange Rows.cachePlaysSpec)) Rows.cachePlaysCard :=
  Claim7.holds_tied_plain_at .later [] [.data] true Rows.cachePlaysCard.stood.harness false
    over (fun _ h => by cases h) (by kernel_rfl) (fun _ h => by cases h) cachePlays_row_tie rfl ⟨rfl, rfl⟩ (by kernel_rfl) rfl
    (fun f fn hf hfn => by
      have e : some f = some 3 := hf.symm.trans (by kernel_rfl)
      obtain rfl := Option.some.inj e
      obtain rfl : fn = Tryd.f3 := (Option.some.inj (Tryd.func3.symm.trans hfn)).symm
      exact ⟨by kernel_rfl, fun j t ht => by
        rw [Tryd.params3] at ht
        have hm : t ∈ [22, 23] := by simpa using Array.mem_of_getElem? ht
        have hall : ([22, 23].all fun u => !Tryd.prog.wantsStandIn u) = true := by kernel_rfl
        exact (show Tryd.prog.wantsStandIn t = false by simpa using List.all_eq_true.1 hall t hm)⟩)
    (by kernel_rfl)

end Go.Proofs.YtncdidklgpmefaaDoor.cachePlays
namespace Go.Proofs.YtncdidklgpmefaaDoor
theorem cachePlays_holds : Rows.CachePlaysCardSaid := cachePlays.card
end Go.Proofs.YtncdidklgpmefaaDoor
