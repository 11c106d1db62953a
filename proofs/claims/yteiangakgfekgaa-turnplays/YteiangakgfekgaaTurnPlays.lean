/-
  TurnPlays: for every input the law answers true, and its arguments read as before. No condition.
-/
import Derived.Test.YteiangakgfekgaaRows
import Derived.Test.YteiangakgfekgaaBufArgs
import Derived.Test.YteiangakgfekgaaTuPair
import Derived.WalkKit
import Derived.ProofKit
import Derived.OpenShut
import Derived.ShutString
import Derived.Deep.QuietTactic
import Derived.BigQuiet
import Derived.Deep.RegionWith
import Derived.Deep.RegionHeld3
import Derived.Deep.DeepCutAuto
import Derived.Deep.CutBlock
namespace Go.Proofs.Yteiangakgfekgaa.turnPlays
open Go.ChangeShapes Go.WideShapes Go.ChangeAt Go.RowKit
open Go.ChangeMaps (open_string shut_string)
open Go.Proofs.Yteiangakgfekgaa Plain
set_option linter.unusedVariables false

theorem own : ownKnob Try.prog.godebug = none := by kernel_rfl
theorem laidOut : laidOutB Try.prog = true := by kernel_rfl
set_option maxRecDepth 100000 in
set_option maxHeartbeats 8000000 in
theorem walk (w : World) (a0 : Int) (a1 : Int) (a2 : Value) (l2 : List A3) (w0 : (Lit.int .i64 a0).wf = true) (w1 : (Lit.int .i64 a1).wf = true) (w2 : Acts w a2 l2) :
    Calls Try.prog 3 #[.int .i64 a0, .int .i64 a1, a2] w fun e w' => e = .returned (.bool true) ∧ Kp w w' := by
  clear w0 w1
  obtain ⟨pa, pg, po, pc, ln, rfl, hp1, hp2, hpa, hpc⟩ := w2.open
  have HPC := hid hpc
  clear w2 hpc
  by_cases hok : newOk a0 a1
  case neg =>
    have hN := new_no a0 a1 hok w
    have hN2 := fun V => rnew_no a0 a1 hok V
    clear hok HPC hpa hp1 hp2
    go_enter Try.func3, Try.ntmps3
    go_wp2_with fail
    refine hN.mono ?_; rintro e u1 ⟨rfl, k1⟩
    have hN2 := hN2 u1
    clear hN
    go_wp2_with fail
    refine hN2.mono ?_; rintro e u2 ⟨rfl, k2⟩
    have HK2 := hid (k1.trans k2)
    clear hN2 k1 k2
    go_wp2_with fail
    refine (wakes_any u2).mono ?_; rintro e u3 ⟨rfl, k3⟩
    have HK3 := hid (HK2.out.trans k3)
    clear HK2 k3
    go_wp2_with fail
    refine (nadd 1 u3).mono ?_; rintro e u4 ⟨rfl, k4⟩
    have HK4 := hid (HK3.out.trans k4)
    clear HK3 k4
    go_wp2_with fail
    refine (ntouch 1 u4).mono ?_; rintro e u5 ⟨rfl, k5⟩
    have HK5 := hid (HK4.out.trans k5)
    clear HK4 k5
    go_wp2_with fail
    refine (ndrop 1 u5).mono ?_; rintro e u6 ⟨rfl, k6⟩
    have HK6 := hid (HK5.out.trans k6)
    clear HK5 k6
    go_wp2_with fail
    refine (npin 1 true u6).mono ?_; rintro e u7 ⟨rfl, k7⟩
    have HK7 := hid (HK6.out.trans k7)
    clear HK6 k7
    go_wp2_with fail
    refine (nfull u7).mono ?_; rintro e u8 ⟨rfl, k8⟩
    have HK8 := hid (HK7.out.trans k8)
    clear HK7 k8
    go_wp2_with fail
    refine (norder u8).mono ?_; rintro e u9 ⟨rfl, k9⟩
    have HK9 := hid (HK8.out.trans k9)
    clear HK8 k9
    go_wp2
    go_ret
    exact ⟨rfl, HK9.out⟩
  case pos =>
  obtain ⟨kk, ekk⟩ : ∃ k, k = min ln 80 := ⟨_, rfl⟩
  have hmin : ∀ ts t W, (Builtin.min_ ts t #[.int .i64 (ln : Int), .int .i64 80]).run Try.prog W = .ok (.int .i64 (kk : Int)) W := fun ts t W => by
    rw [imin ts t _ _ W]
    congr 2
    omega
  have hk1 : kk ≤ ln := by omega
  have hk80 : kk ≤ 80 := by omega
  clear ekk
  have HR7 := hid rem7
  have HOK := hid hok
  have hN := new_ok w a0 a1 hok w (Nat.le_refl _)
  clear hok
  go_enter Try.func3, Try.ntmps3
  go_wp2_with fail
  refine hN.mono ?_; rintro e u1 ⟨t, T1, rfl, x1, k1, t1⟩
  clear hN
  have hN := rnew_ok w a0 a1 HOK.out u1 k1.size
  have H1 := hid (And.intro x1 k1)
  clear x1 k1 t1
  go_wp2_with fail
  refine hN.mono ?_; rintro e u2 ⟨r, T2, rfl, x2, k2, t2⟩
  clear hN
  have HZ2 : Hid (Pz w u2 t r (newT a0 a1) 0) := ⟨⟨a0, a1, [], 0⟩, T1, T2, H1.out.1.kept k2, x2, fun j hj h2 => by have h3 := OL.tx.low H1.out.1 j hj; have h4 := t2 j h2; omega, H1.out.2.trans k2, ⟨Gd.new HOK.out.1 HOK.out.2.1 HOK.out.2.2.1 HOK.out.2.2.2, Rl.new a0 a1, by simp [newT], by simp, by simp⟩⟩
  clear x2 k2 t2 H1 HOK
  go_wp2_with fail
  refine (wakes_any u2).mono ?_; rintro e U ⟨rfl, k3⟩
  have H0 : Hid (Pz w U t r (newT a0 a1) 0) := HZ2.out.kp k3
  clear k3 HZ2
  go_upto_region 7 with fail
  go_cut [77, 78, 79] (fun p qq i wx => ∃ a', p = .slice a' kk pc ∧ qq = .int .i64 (kk : Int) ∧ i = .int .i64 ((0 : Nat) : Int) ∧ (0 < kk → a' = some ⟨pg, po, none⟩) ∧ U = wx)
  case first =>
    by_cases h0 : 0 < ln
    · obtain rfl := hpa h0
      go_wp2_with fail
      go_meet
      exact ⟨_, rfl, rfl, rfl, fun _ => rfl, rfl⟩
    · have hn0 : ln = 0 := by omega
      subst hn0
      obtain rfl : kk = 0 := by omega
      cases pa with
      | none =>
        go_wp2_with fail
        go_meet
        exact ⟨_, rfl, rfl, rfl, fun h => absurd h (by omega), rfl⟩
      | some ad =>
        go_wp2_with fail
        go_meet
        exact ⟨_, rfl, rfl, rfl, fun h => absurd h (by omega), rfl⟩
  case rest =>
  obtain ⟨a', rfl, rfl, rfl, ha', rfl⟩ := hcut
  clear hmin hpa
  go_wp2_with fail
  go_loopw [12, 13, 14, 15, 16, 79] (fun _ _ _ _ _ i wr => ∃ (k : Nat) (S : TS), k ≤ kk ∧ i = .int .i64 k ∧ Hid (Pz w wr t r S k)) (fun _ _ _ _ _ i _ => kk - (intOf i).toNat)
  case atStart => exact ⟨0, newT a0 a1, by omega, by go_num, H0⟩
  case round =>
    clear H0
    obtain ⟨k, S, hk, rfl, HQ⟩ := hrel
    rename World => wr
    by_cases hlt : k < kk
    · obtain rfl := ha' (by omega)
      obtain ⟨⟨c0, c1, c2⟩, _, hko⟩ := HPC.out wr HQ.out.k k (by omega)
      obtain ⟨dd, hdd⟩ : ∃ z, z = (l2.getD k no3).d := ⟨_, rfl⟩
      obtain ⟨ky, hky⟩ : ∃ z, z = (l2.getD k no3).k := ⟨_, rfl⟩
      obtain ⟨on, hon⟩ : ∃ z, z = (l2.getD k no3).on := ⟨_, rfl⟩
      rw [← hdd] at c0
      rw [← hky] at c1 hko
      rw [← hon] at c2
      have HI := hid hko
      obtain ⟨V, hV⟩ : ∃ V, V = wr.alloc (.cells #[.int .i64 dd, .int .i64 ky, .bool on] 37) := ⟨_, rfl⟩
      obtain ⟨H, hH⟩ : ∃ H, H = wr.heap.size := ⟨_, rfl⟩
      have HV : Hid (V = wr.alloc (.cells #[.int .i64 dd, .int .i64 ky, .bool on] 37) ∧ H = wr.heap.size) := ⟨hV, hH⟩
      have HB : Hid (Pm w V t r S S k H #[.int .i64 dd, .int .i64 ky, .bool on] 37) := by
        show Pm _ _ _ _ _ _ _ _ _ _
        rw [hV, hH]; exact HQ.out.box _ _
      have e0 : V.cell? ⟨H, 0, none⟩ = some (.int .i64 dd) := cell_of HB.out.at 0
      clear hdd hky hon hko hV hH HQ
      go_upto_region 10 with fail
      rw [← HV.out.1, ← HV.out.2]
      clear HV c0 c1 c2
      obtain ⟨r7, m7, ht1, hr1_, hr2_, ht2, hm1, hm2⟩ := HR7.out dd
      have hm7 : m7 = 2 ∨ m7 = 3 ∨ m7 = 4 ∨ m7 = 5 ∨ m7 = 6 ∨ m7 = 0 ∨ m7 = 1 := by omega
      rcases hm7 with rfl | rfl | rfl | rfl | rfl | rfl | rfl
      · obtain ⟨ee, hee⟩ : ∃ ee, ee = inT S ky := ⟨_, rfl⟩
        have hr0 : Pm w V t r S S k H #[.int .i64 dd, .int .i64 ky, .bool on] 37 := HB.out
        have hr1 : Pm w V.drew t r S S k H #[.int .i64 dd, .int .i64 ky, .bool on] 37 := HB.out.kp ((Kp.refl V).drew)
        have hS : ∀ S0 S' q X, Pm w X t r S0 S' q H #[.int .i64 dd, .int .i64 ky, .bool on] 37 → X.cell? ⟨H, 1, none⟩ = some (.int .i64 ky) := fun S0 S' q X h => cell_of h.at 1
        have cP1 : ∀ X, Pm w X t r S S k H #[.int .i64 dd, .int .i64 ky, .bool on] 37 → Calls Try.prog 11 #[.pointer (some ⟨t, 0, none⟩), .int .i64 ky] X fun e X' => e = .returned (.bool ee) ∧ Pm w X' t r S (toS S ky) k H #[.int .i64 dd, .int .i64 ky, .bool on] 37 := fun X h => by rw [hee]; exact h.touch ky
        have cP2 : ∀ X, Pm w X t r S (toS S ky) k H #[.int .i64 dd, .int .i64 ky, .bool on] 37 → Calls Try.prog 16 #[.pointer (some ⟨r, 0, none⟩), .int .i64 ky] X fun e X' => e = .returned (.bool ee) ∧ Pm w X' t r (toS S ky) (toS S ky) (k + 1) H #[.int .i64 dd, .int .i64 ky, .bool on] 37 := fun X h => by rw [hee]; exact h.rtouch (by omega) ky
        clear hee HB
        go_upto_region 15 with fail
        go_region_held3 (fun X => X.cell? ⟨H, 1, none⟩ = some (.int .i64 ky)) (exact hS _ _ _ _ (by assumption)) (first
          | (go_at_call 11; refine (cP1 _ (by assumption)).mono ?_; rintro e vb ⟨rfl, kb⟩)
          | (go_at_call 16; refine (cP2 _ (by assumption)).mono ?_; rintro e X ⟨rfl, kc⟩))
        have HE : Hid (Pm w X t r (toS S ky) (toS S ky) (k + 1) H #[.int .i64 dd, .int .i64 ky, .bool on] 37) := kc
        obtain ⟨S', hS'⟩ : ∃ S' : TS, S' = toS S ky := ⟨_, rfl⟩
        rw [← hS'] at HE
        clear cP1 cP2 hS hr0 hr1 kc hS' e0
        have hbne : (ee != ee) = false := by simp
        have e1 := cell_of HE.out.at 1
        have hSm := HE.out.same ky
        clear HE
        go_wp2_with fail
        refine hSm.mono ?_; rintro e v3 ⟨rfl, p3⟩
        have HE3 : Hid (Pz w v3 t r S' (k + 1)) := p3.pz
        clear hSm p3 e1
        go_wp2
        go_roundw
        case rel => first | exact ⟨k + 1, S', by omega, by go_num, HE3⟩ | (repeat apply Exists.intro) <;> exact ⟨⟨k + 1, S', by omega, by go_num, HE3⟩, rfl⟩
        case measure => simp [intOf]; omega
      · obtain ⟨ee, hee⟩ : ∃ ee, ee = inT S ky := ⟨_, rfl⟩
        have hr0 : Pm w V t r S S k H #[.int .i64 dd, .int .i64 ky, .bool on] 37 := HB.out
        have hr1 : Pm w V.drew t r S S k H #[.int .i64 dd, .int .i64 ky, .bool on] 37 := HB.out.kp ((Kp.refl V).drew)
        have hS : ∀ S0 S' q X, Pm w X t r S0 S' q H #[.int .i64 dd, .int .i64 ky, .bool on] 37 → X.cell? ⟨H, 1, none⟩ = some (.int .i64 ky) := fun S0 S' q X h => cell_of h.at 1
        have cP1 : ∀ X, Pm w X t r S S k H #[.int .i64 dd, .int .i64 ky, .bool on] 37 → Calls Try.prog 11 #[.pointer (some ⟨t, 0, none⟩), .int .i64 ky] X fun e X' => e = .returned (.bool ee) ∧ Pm w X' t r S (toS S ky) k H #[.int .i64 dd, .int .i64 ky, .bool on] 37 := fun X h => by rw [hee]; exact h.touch ky
        have cP2 : ∀ X, Pm w X t r S (toS S ky) k H #[.int .i64 dd, .int .i64 ky, .bool on] 37 → Calls Try.prog 16 #[.pointer (some ⟨r, 0, none⟩), .int .i64 ky] X fun e X' => e = .returned (.bool ee) ∧ Pm w X' t r (toS S ky) (toS S ky) (k + 1) H #[.int .i64 dd, .int .i64 ky, .bool on] 37 := fun X h => by rw [hee]; exact h.rtouch (by omega) ky
        clear hee HB
        go_upto_region 15 with fail
        go_region_held3 (fun X => X.cell? ⟨H, 1, none⟩ = some (.int .i64 ky)) (exact hS _ _ _ _ (by assumption)) (first
          | (go_at_call 11; refine (cP1 _ (by assumption)).mono ?_; rintro e vb ⟨rfl, kb⟩)
          | (go_at_call 16; refine (cP2 _ (by assumption)).mono ?_; rintro e X ⟨rfl, kc⟩))
        have HE : Hid (Pm w X t r (toS S ky) (toS S ky) (k + 1) H #[.int .i64 dd, .int .i64 ky, .bool on] 37) := kc
        obtain ⟨S', hS'⟩ : ∃ S' : TS, S' = toS S ky := ⟨_, rfl⟩
        rw [← hS'] at HE
        clear cP1 cP2 hS hr0 hr1 kc hS' e0
        have hbne : (ee != ee) = false := by simp
        have e1 := cell_of HE.out.at 1
        have hSm := HE.out.same ky
        clear HE
        go_wp2_with fail
        refine hSm.mono ?_; rintro e v3 ⟨rfl, p3⟩
        have HE3 : Hid (Pz w v3 t r S' (k + 1)) := p3.pz
        clear hSm p3 e1
        go_wp2
        go_roundw
        case rel => first | exact ⟨k + 1, S', by omega, by go_num, HE3⟩ | (repeat apply Exists.intro) <;> exact ⟨⟨k + 1, S', by omega, by go_num, HE3⟩, rfl⟩
        case measure => simp [intOf]; omega
      · obtain ⟨ee, hee⟩ : ∃ ee, ee = inT S ky := ⟨_, rfl⟩
        have hr0 : Pm w V t r S S k H #[.int .i64 dd, .int .i64 ky, .bool on] 37 := HB.out
        have hr1 : Pm w V.drew t r S S k H #[.int .i64 dd, .int .i64 ky, .bool on] 37 := HB.out.kp ((Kp.refl V).drew)
        have hS : ∀ S0 S' q X, Pm w X t r S0 S' q H #[.int .i64 dd, .int .i64 ky, .bool on] 37 → X.cell? ⟨H, 1, none⟩ = some (.int .i64 ky) ∧ X.cell? ⟨H, 2, none⟩ = some (.bool on) := fun S0 S' q X h => ⟨cell_of h.at 1, cell_of h.at 2⟩
        have cP1 : ∀ X, Pm w X t r S S k H #[.int .i64 dd, .int .i64 ky, .bool on] 37 → Calls Try.prog 13 #[.pointer (some ⟨t, 0, none⟩), .int .i64 ky, .bool on] X fun e X' => e = .returned (.bool ee) ∧ Pm w X' t r S (pnS S ky on) k H #[.int .i64 dd, .int .i64 ky, .bool on] 37 := fun X h => by rw [hee]; exact h.pin (by omega) ky on
        have cP2 : ∀ X, Pm w X t r S (pnS S ky on) k H #[.int .i64 dd, .int .i64 ky, .bool on] 37 → Calls Try.prog 17 #[.pointer (some ⟨r, 0, none⟩), .int .i64 ky, .bool on] X fun e X' => e = .returned (.bool ee) ∧ Pm w X' t r (pnS S ky on) (pnS S ky on) (k + 1) H #[.int .i64 dd, .int .i64 ky, .bool on] 37 := fun X h => by rw [hee]; exact h.rpin (by omega) ky on
        clear hee HB
        go_upto_region 17 with fail
        go_region_held3 (fun X => X.cell? ⟨H, 1, none⟩ = some (.int .i64 ky) ∧ X.cell? ⟨H, 2, none⟩ = some (.bool on)) (exact hS _ _ _ _ (by assumption)) (first
          | (go_at_call 13; refine (cP1 _ (by assumption)).mono ?_; rintro e vb ⟨rfl, kb⟩)
          | (go_at_call 17; refine (cP2 _ (by assumption)).mono ?_; rintro e X ⟨rfl, kc⟩))
        have HE : Hid (Pm w X t r (pnS S ky on) (pnS S ky on) (k + 1) H #[.int .i64 dd, .int .i64 ky, .bool on] 37) := kc
        obtain ⟨S', hS'⟩ : ∃ S' : TS, S' = pnS S ky on := ⟨_, rfl⟩
        rw [← hS'] at HE
        clear cP1 cP2 hS hr0 hr1 kc hS' e0
        have hbne : (ee != ee) = false := by simp
        have e1 := cell_of HE.out.at 1
        have hSm := HE.out.same ky
        clear HE
        go_wp2_with fail
        refine hSm.mono ?_; rintro e v3 ⟨rfl, p3⟩
        have HE3 : Hid (Pz w v3 t r S' (k + 1)) := p3.pz
        clear hSm p3 e1
        go_wp2
        go_roundw
        case rel => first | exact ⟨k + 1, S', by omega, by go_num, HE3⟩ | (repeat apply Exists.intro) <;> exact ⟨⟨k + 1, S', by omega, by go_num, HE3⟩, rfl⟩
        case measure => simp [intOf]; omega
      · obtain ⟨ee, hee⟩ : ∃ ee, ee = inT S ky := ⟨_, rfl⟩
        have hr0 : Pm w V t r S S k H #[.int .i64 dd, .int .i64 ky, .bool on] 37 := HB.out
        have hr1 : Pm w V.drew t r S S k H #[.int .i64 dd, .int .i64 ky, .bool on] 37 := HB.out.kp ((Kp.refl V).drew)
        have hS : ∀ S0 S' q X, Pm w X t r S0 S' q H #[.int .i64 dd, .int .i64 ky, .bool on] 37 → X.cell? ⟨H, 1, none⟩ = some (.int .i64 ky) := fun S0 S' q X h => cell_of h.at 1
        have cP1 : ∀ X, Pm w X t r S S k H #[.int .i64 dd, .int .i64 ky, .bool on] 37 → Calls Try.prog 12 #[.pointer (some ⟨t, 0, none⟩), .int .i64 ky] X fun e X' => e = .returned (.bool ee) ∧ Pm w X' t r S (drS S ky) k H #[.int .i64 dd, .int .i64 ky, .bool on] 37 := fun X h => by rw [hee]; exact h.drop ky
        have cP2 : ∀ X, Pm w X t r S (drS S ky) k H #[.int .i64 dd, .int .i64 ky, .bool on] 37 → Calls Try.prog 18 #[.pointer (some ⟨r, 0, none⟩), .int .i64 ky] X fun e X' => e = .returned (.bool ee) ∧ Pm w X' t r (drS S ky) (drS S ky) (k + 1) H #[.int .i64 dd, .int .i64 ky, .bool on] 37 := fun X h => by rw [hee]; exact h.rdrop (by omega) ky
        clear hee HB
        go_upto_region 19 with fail
        go_region_held3 (fun X => X.cell? ⟨H, 1, none⟩ = some (.int .i64 ky)) (exact hS _ _ _ _ (by assumption)) (first
          | (go_at_call 12; refine (cP1 _ (by assumption)).mono ?_; rintro e vb ⟨rfl, kb⟩)
          | (go_at_call 18; refine (cP2 _ (by assumption)).mono ?_; rintro e X ⟨rfl, kc⟩))
        have HE : Hid (Pm w X t r (drS S ky) (drS S ky) (k + 1) H #[.int .i64 dd, .int .i64 ky, .bool on] 37) := kc
        obtain ⟨S', hS'⟩ : ∃ S' : TS, S' = drS S ky := ⟨_, rfl⟩
        rw [← hS'] at HE
        clear cP1 cP2 hS hr0 hr1 kc hS' e0
        have hbne : (ee != ee) = false := by simp
        have e1 := cell_of HE.out.at 1
        have hSm := HE.out.same ky
        clear HE
        go_wp2_with fail
        refine hSm.mono ?_; rintro e v3 ⟨rfl, p3⟩
        have HE3 : Hid (Pz w v3 t r S' (k + 1)) := p3.pz
        clear hSm p3 e1
        go_wp2
        go_roundw
        case rel => first | exact ⟨k + 1, S', by omega, by go_num, HE3⟩ | (repeat apply Exists.intro) <;> exact ⟨⟨k + 1, S', by omega, by go_num, HE3⟩, rfl⟩
        case measure => simp [intOf]; omega
      · have hV := HB.out.victim
        obtain ⟨vk, hvk⟩ : ∃ vk, vk = vcK S := ⟨_, rfl⟩
        obtain ⟨vo, hvo⟩ : ∃ vo, vo = (vcO S).isSome := ⟨_, rfl⟩
        rw [← hvk, ← hvo] at hV
        clear hvk hvo HB
        go_wp2_with fail
        refine hV.mono ?_; rintro e v1 ⟨rfl, p1⟩
        have hD := p1.drop vk
        obtain ⟨ee, hee⟩ : ∃ ee, ee = inT S vk := ⟨_, rfl⟩
        rw [← hee] at hD
        clear hV p1 e0
        go_wp2_with fail
        refine hD.mono ?_; rintro e v2 ⟨rfl, p2⟩
        have hD2 := p2.rdrop (by omega) vk
        rw [← hee] at hD2
        clear hD p2 hee
        go_wp2_with fail
        refine hD2.mono ?_; rintro e X ⟨rfl, p3⟩
        have HE : Hid (Pm w X t r (drS S vk) (drS S vk) (k + 1) H #[.int .i64 dd, .int .i64 ky, .bool on] 37) := p3
        obtain ⟨S', hS'⟩ : ∃ S' : TS, S' = drS S vk := ⟨_, rfl⟩
        rw [← hS'] at HE
        clear hD2 p3 hS'
        have hbne : (ee != ee) = false := by simp
        have e1 := cell_of HE.out.at 1
        have hSm := HE.out.same ky
        clear HE
        go_wp2_with fail
        refine hSm.mono ?_; rintro e v3 ⟨rfl, p3⟩
        have HE3 : Hid (Pz w v3 t r S' (k + 1)) := p3.pz
        clear hSm p3 e1
        go_wp2
        go_roundw
        case rel => first | exact ⟨k + 1, S', by omega, by go_num, HE3⟩ | (repeat apply Exists.intro) <;> exact ⟨⟨k + 1, S', by omega, by go_num, HE3⟩, rfl⟩
        case measure => simp [intOf]; omega
      · obtain ⟨ee, hee⟩ : ∃ ee, ee = adE S ky := ⟨_, rfl⟩
        have hr0 : Pm w V t r S S k H #[.int .i64 dd, .int .i64 ky, .bool on] 37 := HB.out
        have hr1 : Pm w V.drew t r S S k H #[.int .i64 dd, .int .i64 ky, .bool on] 37 := HB.out.kp ((Kp.refl V).drew)
        have hS : ∀ S0 S' q X, Pm w X t r S0 S' q H #[.int .i64 dd, .int .i64 ky, .bool on] 37 → X.cell? ⟨H, 1, none⟩ = some (.int .i64 ky) := fun S0 S' q X h => cell_of h.at 1
        have cP1 : ∀ X, Pm w X t r S S k H #[.int .i64 dd, .int .i64 ky, .bool on] 37 → Calls Try.prog 10 #[.pointer (some ⟨t, 0, none⟩), .int .i64 ky] X fun e X' => e = .returned (.int .i64 ee) ∧ Pm w X' t r S (adS S ky) k H #[.int .i64 dd, .int .i64 ky, .bool on] 37 := fun X h => by rw [hee]; exact h.add ky
        have cP2 : ∀ X, Pm w X t r S (adS S ky) k H #[.int .i64 dd, .int .i64 ky, .bool on] 37 → Calls Try.prog 20 #[.pointer (some ⟨r, 0, none⟩), .int .i64 ky] X fun e X' => e = .returned (.int .i64 ee) ∧ Pm w X' t r (adS S ky) (adS S ky) (k + 1) H #[.int .i64 dd, .int .i64 ky, .bool on] 37 := fun X h => by rw [hee]; exact h.radd (by omega) HI.out
        clear hee HB
        go_upto_region 12 with fail
        go_region_held3 (fun X => X.cell? ⟨H, 1, none⟩ = some (.int .i64 ky)) (exact hS _ _ _ _ (by assumption)) (first
          | (go_at_call 10; refine (cP1 _ (by assumption)).mono ?_; rintro e vb ⟨rfl, kb⟩)
          | (go_at_call 20; refine (cP2 _ (by assumption)).mono ?_; rintro e X ⟨rfl, kc⟩))
        have HE : Hid (Pm w X t r (adS S ky) (adS S ky) (k + 1) H #[.int .i64 dd, .int .i64 ky, .bool on] 37) := kc
        obtain ⟨S', hS'⟩ : ∃ S' : TS, S' = adS S ky := ⟨_, rfl⟩
        rw [← hS'] at HE
        clear cP1 cP2 hS hr0 hr1 kc hS' e0
        have hbe : (ee == ee) = true := by simp
        have e1 := cell_of HE.out.at 1
        have hSm := HE.out.same ky
        clear HE
        go_wp2_with fail
        refine hSm.mono ?_; rintro e v3 ⟨rfl, p3⟩
        have HE3 : Hid (Pz w v3 t r S' (k + 1)) := p3.pz
        clear hSm p3 e1
        go_wp2
        go_roundw
        case rel => first | exact ⟨k + 1, S', by omega, by go_num, HE3⟩ | (repeat apply Exists.intro) <;> exact ⟨⟨k + 1, S', by omega, by go_num, HE3⟩, rfl⟩
        case measure => simp [intOf]; omega
      · obtain ⟨ee, hee⟩ : ∃ ee, ee = adE S ky := ⟨_, rfl⟩
        have hr0 : Pm w V t r S S k H #[.int .i64 dd, .int .i64 ky, .bool on] 37 := HB.out
        have hr1 : Pm w V.drew t r S S k H #[.int .i64 dd, .int .i64 ky, .bool on] 37 := HB.out.kp ((Kp.refl V).drew)
        have hS : ∀ S0 S' q X, Pm w X t r S0 S' q H #[.int .i64 dd, .int .i64 ky, .bool on] 37 → X.cell? ⟨H, 1, none⟩ = some (.int .i64 ky) := fun S0 S' q X h => cell_of h.at 1
        have cP1 : ∀ X, Pm w X t r S S k H #[.int .i64 dd, .int .i64 ky, .bool on] 37 → Calls Try.prog 10 #[.pointer (some ⟨t, 0, none⟩), .int .i64 ky] X fun e X' => e = .returned (.int .i64 ee) ∧ Pm w X' t r S (adS S ky) k H #[.int .i64 dd, .int .i64 ky, .bool on] 37 := fun X h => by rw [hee]; exact h.add ky
        have cP2 : ∀ X, Pm w X t r S (adS S ky) k H #[.int .i64 dd, .int .i64 ky, .bool on] 37 → Calls Try.prog 20 #[.pointer (some ⟨r, 0, none⟩), .int .i64 ky] X fun e X' => e = .returned (.int .i64 ee) ∧ Pm w X' t r (adS S ky) (adS S ky) (k + 1) H #[.int .i64 dd, .int .i64 ky, .bool on] 37 := fun X h => by rw [hee]; exact h.radd (by omega) HI.out
        clear hee HB
        go_upto_region 12 with fail
        go_region_held3 (fun X => X.cell? ⟨H, 1, none⟩ = some (.int .i64 ky)) (exact hS _ _ _ _ (by assumption)) (first
          | (go_at_call 10; refine (cP1 _ (by assumption)).mono ?_; rintro e vb ⟨rfl, kb⟩)
          | (go_at_call 20; refine (cP2 _ (by assumption)).mono ?_; rintro e X ⟨rfl, kc⟩))
        have HE : Hid (Pm w X t r (adS S ky) (adS S ky) (k + 1) H #[.int .i64 dd, .int .i64 ky, .bool on] 37) := kc
        obtain ⟨S', hS'⟩ : ∃ S' : TS, S' = adS S ky := ⟨_, rfl⟩
        rw [← hS'] at HE
        clear cP1 cP2 hS hr0 hr1 kc hS' e0
        have hbe : (ee == ee) = true := by simp
        have e1 := cell_of HE.out.at 1
        have hSm := HE.out.same ky
        clear HE
        go_wp2_with fail
        refine hSm.mono ?_; rintro e v3 ⟨rfl, p3⟩
        have HE3 : Hid (Pz w v3 t r S' (k + 1)) := p3.pz
        clear hSm p3 e1
        go_wp2
        go_roundw
        case rel => first | exact ⟨k + 1, S', by omega, by go_num, HE3⟩ | (repeat apply Exists.intro) <;> exact ⟨⟨k + 1, S', by omega, by go_num, HE3⟩, rfl⟩
        case measure => simp [intOf]; omega
    · go_wp2
      go_ret
      exact ⟨rfl, HQ.out.k⟩

set_option maxRecDepth 100000 in
theorem lifted (os : Os) (started : os.Started) (H : Type) (enc : TypeId × Value → H) :
    ReturnsInHanded {} Try.checked os 3 .any (Rows.turnPlaysSpec.pre6 enc Try.prog Try.f3 Rows.turnPlaysRow.domain false) (Rows.turnPlaysSpec.post enc Try.prog Try.f3 false true false false) := by
  refine returnsInHanded_of_change (C := Try.checked) own started (by kernel_rfl) Try.func3
    (ChangeSpec.witness6 (enc := enc) (C := Try.checked) false ⟨#[], #[.int .i64 0, .int .i64 0, .slice none 0 0], []⟩ 8 (by kernel_rfl) (by kernel_rfl) (by kernel_rfl) (by kernel_rfl)) ?_
  intro W base args ds gs before hval0 hW hcnd _
  have hval : ∀ (j : Nat) t v, Try.f3.params[j]? = some t → args[j]? = some v → Value.okWide Try.prog W .any base t v := hval0
  have hW' := hW
  have hlt := hW.lt
  obtain ⟨p, q, hA0, hV, rfl, hfz, hnd⟩ := hW
  have hA : DataW.TrodAll enc Try.prog W 0 (fun _ => true) true Try.f3.params.toList args.toList ds p := hA0
  have hAk := hA
  rw [Try.params3] at hA hval
  obtain ⟨v0, vs0, d0, ds0, p0, q0, hargs, rfl, rfl, h0, r0⟩ := trodAll_cons hA
  obtain ⟨v1, vs1, d1, ds1, p1, q1, rfl, rfl, rfl, h1, r1⟩ := trodAll_cons r0
  obtain ⟨v2, vs2, d2, ds2, p2, q2, rfl, rfl, rfl, h2, r2⟩ := trodAll_cons r1
  obtain ⟨rfl, rfl, rfl⟩ := trodAll_nil r2
  obtain rfl : args = #[v0, v1, v2] := by cases args; simp_all
  obtain ⟨rfl, rfl⟩ := trodVars_none hV
  obtain ⟨a0, rfl, rfl, rfl, w0⟩ := open_int Try.underlying3 (hval 0 3 v0 rfl rfl) h0
  obtain ⟨a1, rfl, rfl, rfl, w1⟩ := open_int Try.underlying3 (hval 1 3 v1 rfl rfl) h1
  obtain ⟨l2, w2⟩ := open_as23 (hval 2 22 v2 rfl rfl) h2
  clear hA0 hval0
  simp only [List.append_nil] at hW' hAk hlt
  refine (walk W a0 a1 v2 l2 w0 w1 w2).mono fun e W' ⟨he, hg⟩ => ?_
  subst he
  exact ⟨_, rfl, post_kp (pv := []) hW' (fun _ _ _ => (trodAll_cons_mk (shut_bool Try.underlying4 _) trodAll_mk0)) (fun sp hsp => trodAll_stays laidOut (by rw [Try.params3]; exact of_decide_eq_true (by kernel_rfl)) hAk (fun x hx => Below.same hg (hlt x hx)) hsp) (fun _ _ => rfl) (by simp) hg⟩

theorem over : Rows.turnPlaysRow.holds Try.pinned (OpenSpec.ofChange Rows.turnPlaysSpec) :=
  OpenClaim.holds_of_wide 3 Try.f3 rfl rfl rfl rfl rfl rfl rfl ⟨rfl, rfl, rfl, rfl, rfl⟩ rfl rfl rfl rfl rfl (by kernel_rfl) Try.func3 (by kernel_rfl)
    (of_decide_eq_true (by kernel_rfl)) (by unfold Func.isWrapper; first | (rw [if_pos (by decide +kernel)]; kernel_rfl) | (rw [if_neg (by decide +kernel)]; exact ⟨rfl, rfl⟩))
    (fun os started H enc _ => lifted os started H enc)

end Go.Proofs.Yteiangakgfekgaa.turnPlays
namespace Go.Proofs.Yteiangakgfekgaa
theorem turnPlays_holds : Rows.TurnPlaysSaid := turnPlays.over
end Go.Proofs.Yteiangakgfekgaa
