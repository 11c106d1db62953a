/-
  QueuePlays: for every input the law answers true, and its arguments read as before. No condition.
-/
import Derived.Test.YtdfdoinhkjoalaaRows
import Derived.Test.YtdfdoinhkjoalaaBufArgs
import Derived.Test.YtdfdoinhkjoalaaQuSame
import Derived.WalkKit
import Derived.ProofKit
import Derived.OpenShut
import Derived.ShutString
import Derived.Deep.QuietTactic
import Derived.BigQuiet
import Derived.Deep.RegionWith
import Derived.Deep.RegionHeld3
import Derived.Deep.DeepCutAuto
import Derived.Deep.CutBlock
namespace Go.Proofs.Ytdfdoinhkjoalaa.queuePlays
open Go.ChangeShapes Go.WideShapes Go.ChangeAt Go.RowKit
open Go.ChangeMaps (open_string shut_string)
open Go.Proofs.Ytdfdoinhkjoalaa Plain
set_option linter.unusedVariables false

theorem own : ownKnob Try.prog.godebug = none := by kernel_rfl
theorem laidOut : laidOutB Try.prog = true := by kernel_rfl
set_option maxRecDepth 100000 in
set_option maxHeartbeats 8000000 in
theorem walk (w : World) (a0 : Int) (a1 : Value) (l1 : List QA) (w0 : (Lit.int .i64 a0).wf = true) (w1 : Acts w a1 l1) :
    Calls Try.prog 3 #[.int .i64 a0, a1] w fun e w' => e = .returned (.bool true) ∧ Kp w w' := by
  clear w0
  obtain ⟨⟨pa, pc, rfl, hp1, hp2, hp3⟩, hok⟩ := w1
  obtain ⟨ln, hln⟩ : ∃ ln, ln = l1.length := ⟨_, rfl⟩
  obtain ⟨pg, po, hpa, hpc⟩ : ∃ pg po, (0 < ln → pa = some ⟨pg, po, none⟩) ∧ ∀ i, i < ln → w.rangeAt pg (po + i * 4) (acs (l1.getD i noA)) := by
    by_cases h0 : 0 < l1.length
    · obtain ⟨g, off, rfl, h⟩ := hp3 h0
      exact ⟨g, off, fun _ => rfl, fun i hi => h i (by omega)⟩
    · exact ⟨0, 0, fun h => absurd h (by omega), fun i hi => absurd hi (by omega)⟩
  rw [← hln] at hp1 ⊢
  have HPC : Hid (∀ V, Kp w V → ∀ i, i < ln → (V.cell? ⟨pg, po + i * 4, none⟩ = some (.int .i64 (l1.getD i noA).b) ∧ V.cell? ⟨pg, po + i * 4 + 1, none⟩ = some (.int .u8 ((l1.getD i noA).d : Int)) ∧ V.cell? ⟨pg, po + i * 4 + 2, none⟩ = some (.bool (l1.getD i noA).odd) ∧ V.cell? ⟨pg, po + i * 4 + 3, none⟩ = some (.bool (l1.getD i noA).out)) ∧ (l1.getD i noA).d < 256) := fun V k i hi => by
    have h := a_cells (hpc i hi)
    have h2 := hok i (by omega)
    exact ⟨⟨k.held h.1, k.held h.2.1, k.held h.2.2.1, k.held h.2.2.2⟩, h2.d⟩
  clear hp3 hpc hok hln
  obtain ⟨kk, ekk⟩ : ∃ k, k = min ln 60 := ⟨_, rfl⟩
  have hmin : ∀ ts t W, (Builtin.min_ ts t #[.int .i64 (ln : Int), .int .i64 60]).run Try.prog W = .ok (.int .i64 (kk : Int)) W := fun ts t W => by
    rw [imin ts t _ _ W]
    congr 2
    omega
  have hk1 : kk ≤ ln := by omega
  have hk60 : kk ≤ 60 := by omega
  clear ekk
  have hN := qnew_any w a0 w (Nat.le_refl _)
  go_enter Try.func3, Try.ntmps3
  go_wp2_with fail
  refine hN.mono ?_; rintro e u1 ⟨q, T1, rfl, x1, k1, t1⟩
  clear hN
  have hN := rnew_any w a0 u1 k1.size
  have H1 := hid (And.intro x1 k1)
  clear x1 k1 t1
  go_wp2_with fail
  refine hN.mono ?_; rintro e u2 ⟨r, T2, rfl, x2, k2, t2⟩
  clear hN
  have HZ2 : Hid (Pz w u2 q r ⟨[], qm a0, 0⟩ ⟨[], qm a0, 0⟩) := ⟨T1, T2, H1.out.1.kept k2, x2, fun t ht h2 => by have h3 := OL.qx.low H1.out.1 t ht; have h4 := t2 t h2; omega, H1.out.2.trans k2⟩
  clear x2 k2 t2 H1
  go_wp2_with fail
  refine (qwakes_any u2).mono ?_; rintro e U ⟨rfl, k3⟩
  have H0 : Hid (Pz w U q r ⟨[], qm a0, 0⟩ ⟨[], qm a0, 0⟩ ∧ Pq ⟨[], qm a0, 0⟩ ⟨[], qm a0, 0⟩) := ⟨HZ2.out.kp k3, Pq.new a0⟩
  clear k3 HZ2
  go_upto_region 4 with fail
  go_cut [26, 27, 28] (fun p qq i wx => ∃ a', p = .slice a' kk pc ∧ qq = .int .i64 (kk : Int) ∧ i = .int .i64 ((0 : Nat) : Int) ∧ (0 < kk → a' = some ⟨pg, po, none⟩) ∧ U = wx)
  case first =>
    by_cases h0 : 0 < ln
    · obtain rfl := hpa h0
      go_wp2_with fail
      go_meet
      exact ⟨_, rfl, rfl, rfl, fun _ => rfl, rfl⟩
    · have hn0 : ln = 0 := by omega
      subst hn0
      obtain rfl : kk = 0 := by omega
      cases pa with
      | none =>
        go_wp2_with fail
        go_meet
        exact ⟨_, rfl, rfl, rfl, fun h => absurd h (by omega), rfl⟩
      | some ad =>
        go_wp2_with fail
        go_meet
        exact ⟨_, rfl, rfl, rfl, fun h => absurd h (by omega), rfl⟩
  case rest =>
  obtain ⟨a', rfl, rfl, rfl, ha', rfl⟩ := hcut
  go_wp2_with fail
  go_loopw [28] (fun i wr => ∃ (k : Nat) (S R : QS), k ≤ kk ∧ i = .int .i64 k ∧ S.c ≤ k ∧ Hid (Pz w wr q r S R ∧ Pq S R)) (fun i _ => kk - (intOf i).toNat)
  case atStart => exact ⟨0, ⟨[], qm a0, 0⟩, ⟨[], qm a0, 0⟩, by omega, by go_num, by simp, H0⟩
  case round =>
    clear H0
    obtain ⟨k, S, R, hk, rfl, hSk, HQ⟩ := hrel
    by_cases hlt : k < kk
    · obtain rfl := ha' (by omega)
      have hKw : Kp w wr := by obtain ⟨_, _, _, _, _, h⟩ := HQ.out.1; exact h
      obtain ⟨⟨c0, c1, c2, c3⟩, hd256⟩ := HPC.out wr hKw k (by omega)
      obtain ⟨b, eb⟩ : ∃ z, z = (l1.getD k noA).b := ⟨_, rfl⟩
      obtain ⟨d, ed⟩ : ∃ z, z = (l1.getD k noA).d := ⟨_, rfl⟩
      obtain ⟨od, eo⟩ : ∃ z, z = (l1.getD k noA).odd := ⟨_, rfl⟩
      obtain ⟨ou, eu⟩ : ∃ z, z = (l1.getD k noA).out := ⟨_, rfl⟩
      rw [← eb] at c0
      rw [← ed] at c1 hd256
      rw [← eo] at c2
      rw [← eu] at c3
      obtain ⟨V, hV⟩ : ∃ V, V = wr.alloc (.cells #[.int .i64 b, .int .u8 (d : Int), .bool od, .bool ou] 29) := ⟨_, rfl⟩
      obtain ⟨H, hH⟩ : ∃ H, H = wr.heap.size := ⟨_, rfl⟩
      have HV : Hid (V = wr.alloc (.cells #[.int .i64 b, .int .u8 (d : Int), .bool od, .bool ou] 29) ∧ H = wr.heap.size) := ⟨hV, hH⟩
      have HB : Hid (Pb w V q r S R H #[.int .i64 b, .int .u8 (d : Int), .bool od, .bool ou] 29) := by show Pb _ _ _ _ _ _ _ _ _; rw [hV, hH]; exact HQ.out.1.box _ _
      have HP : Hid (Pq S R) := HQ.out.2
      have HBC : Hid (∀ X S' R', Pb w X q r S' R' H #[.int .i64 b, .int .u8 (d : Int), .bool od, .bool ou] 29 → X.cell? ⟨H, 0, none⟩ = some (.int .i64 b) ∧ X.cell? ⟨H, 1, none⟩ = some (.int .u8 (d : Int)) ∧ X.cell? ⟨H, 2, none⟩ = some (.bool od) ∧ X.cell? ⟨H, 3, none⟩ = some (.bool ou)) := fun X S' R' h => by
        obtain ⟨_, _, _, _, _, _, _, _, h⟩ := h
        exact ⟨cell_of h 0, cell_of h 1, cell_of h 2, cell_of h 3⟩
      clear eb ed eo eu hV hH hKw HQ
      go_upto_region 7 with fail
      rw [← HV.out.1, ← HV.out.2]
      clear HV c0 c1 c2 c3
      obtain ⟨e0, e1, e2, e3⟩ := HBC.out V S R HB.out
      go_upto_if 33 with fail
      go_cut [] (fun wx => ∃ S' R', S'.c ≤ S.c + 1 ∧ Hid (Pb w wx q r S' R' H #[.int .i64 b, .int .u8 (d : Int), .bool od, .bool ou] 29 ∧ Pq S' R'))
      case first =>
        cases ou with
        | true =>
          have hT : ∃ T1, QX w V q T1 S := by obtain ⟨T1, _, h, _⟩ := HB.out; exact ⟨T1, h⟩
          obtain ⟨T1, hQ⟩ := hT
          have hTk := qtake_any hQ HP.out.g b
          obtain ⟨x, hx⟩ : ∃ x, x = gtI S.L b := ⟨_, rfl⟩
          obtain ⟨f, hf⟩ : ∃ f, f = hsI S.L b := ⟨_, rfl⟩
          rw [← hx, ← hf] at hTk
          have HXF : Hid (x = gtI R.L b ∧ f = hsI R.L b) := ⟨by rw [hx, HP.out.get], by rw [hf, HP.out.hs]⟩
          have hOne : ∀ X', Nz QX w V X' q T1 ⟨delL S.L b, S.m, S.c⟩ → Pb w X' q r ⟨delL S.L b, S.m, S.c⟩ R H #[.int .i64 b, .int .u8 (d : Int), .bool od, .bool true] 29 := fun X' hz => by
            refine HB.out.one (fun T1' h' => ?_)
            obtain ⟨v1, rfl, h1, _⟩ := hQ
            obtain ⟨v2, rfl, h2, _⟩ := h'
            rw [h1] at h2
            have : v1 = v2 := by simp at h2; exact h2
            rw [← this]
            exact hz
          clear hx hf hQ
          go_wp2_with fail
          refine hTk.mono ?_; rintro e v1 ⟨rfl, z1⟩
          have HB1 := hid (hOne v1 z1)
          clear hTk hOne z1 HB e0 e1 e2 e3
          unfold itV
          obtain ⟨V1, hV1⟩ : ∃ V1, V1 = v1.alloc (.cells #[.int .i64 x.b, .string x.d, .int .i64 x.g] 31) := ⟨_, rfl⟩
          obtain ⟨H1, hH1⟩ : ∃ H1, H1 = v1.heap.size := ⟨_, rfl⟩
          have kV1 : Kp v1 V1 := by rw [hV1]; exact (Kp.refl v1).alloc _
          have a0 : V1.cell? ⟨H1, 0, none⟩ = some (.int .i64 x.b) := by rw [hV1, hH1, World.cell?_alloc_at _ _ _ _ rfl]; rfl
          have a1 : V1.cell? ⟨H1, 1, none⟩ = some (.string x.d) := by rw [hV1, hH1, World.cell?_alloc_at _ _ _ _ rfl]; rfl
          have a2 : V1.cell? ⟨H1, 2, none⟩ = some (.int .i64 x.g) := by rw [hV1, hH1, World.cell?_alloc_at _ _ _ _ rfl]; rfl
          have HV1 : Hid (V1 = v1.alloc (.cells #[.int .i64 x.b, .string x.d, .int .i64 x.g] 31) ∧ H1 = v1.heap.size) := ⟨hV1, hH1⟩
          have HBV1 := hid (HB1.out.kp kV1)
          obtain ⟨e0, e1, e2, e3⟩ := HBC.out _ _ _ HBV1.out
          obtain ⟨T1', T2', y1, y2, y3, y4, y5, y6, y7⟩ := HB1.out
          have hTk := rtake_any (y2.kept kV1) HP.out.l b
          rw [← HXF.out.1, ← HXF.out.2] at hTk
          have hH1n : H1 ∉ T2' := fun h => by have := OL.rx.low y2 _ h; omega
          have hTwo : ∀ X', Nz RX w V1 X' r T2' ⟨rdL b R.L, R.m, R.c⟩ → Pb w X' q r ⟨delL S.L b, S.m, S.c⟩ ⟨rdL b R.L, R.m, R.c⟩ H #[.int .i64 b, .int .u8 (d : Int), .bool od, .bool true] 29 ∧ X'.cell? ⟨H1, 0, none⟩ = some (.int .i64 x.b) ∧ X'.cell? ⟨H1, 1, none⟩ = some (.string x.d) ∧ X'.cell? ⟨H1, 2, none⟩ = some (.int .i64 x.g) := fun X' hz => by
            have hz2 := hz
            obtain ⟨T9, z1, z2, z3⟩ := hz
            refine ⟨HBV1.out.two (fun T h' => ?_), z2.held a0 hH1n, z2.held a1 hH1n, z2.held a2 hH1n⟩
            have h0 := y2.kept kV1
            obtain ⟨u1, rfl, h1, _⟩ := h0
            obtain ⟨u2, rfl, h2, _⟩ := h'
            rw [h1] at h2
            have : u1 = u2 := by simp at h2; exact h2
            rw [← this]
            exact hz2
          clear hV1 hH1 kV1 y1 y2 y3 y4 y5 y6 y7 hH1n HB1
          go_upto_region 9 with fail
          rw [← HV1.out.1, ← HV1.out.2]
          clear HV1
          go_wp2_with fail
          refine hTk.mono ?_; rintro e v2 ⟨rfl, z2⟩
          obtain ⟨hb2, a0, a1, a2⟩ := hTwo v2 z2
          have HB2 := hid hb2
          clear hTk hTwo z2 hb2 HBV1 e0 e1 e2 e3
          unfold itV
          obtain ⟨V2, hV2⟩ : ∃ V2, V2 = v2.alloc (.cells #[.int .i64 x.b, .string x.d, .int .i64 x.g] 34) := ⟨_, rfl⟩
          obtain ⟨H2, hH2⟩ : ∃ H2, H2 = v2.heap.size := ⟨_, rfl⟩
          have kV2 : Kp v2 V2 := by rw [hV2]; exact (Kp.refl v2).alloc _
          have d0 : V2.cell? ⟨H2, 0, none⟩ = some (.int .i64 x.b) := by rw [hV2, hH2, World.cell?_alloc_at _ _ _ _ rfl]; rfl
          have d1 : V2.cell? ⟨H2, 1, none⟩ = some (.string x.d) := by rw [hV2, hH2, World.cell?_alloc_at _ _ _ _ rfl]; rfl
          have d2 : V2.cell? ⟨H2, 2, none⟩ = some (.int .i64 x.g) := by rw [hV2, hH2, World.cell?_alloc_at _ _ _ _ rfl]; rfl
          have HV2 : Hid (V2 = v2.alloc (.cells #[.int .i64 x.b, .string x.d, .int .i64 x.g] 34) ∧ H2 = v2.heap.size) := ⟨hV2, hH2⟩
          have a0 := kV2.held a0
          have a1 := kV2.held a1
          have a2 := kV2.held a2
          have HE : Hid (Pb w V2 q r ⟨delL S.L b, S.m, S.c⟩ ⟨rdL b R.L, R.m, R.c⟩ H #[.int .i64 b, .int .u8 (d : Int), .bool od, .bool true] 29 ∧ Pq ⟨delL S.L b, S.m, S.c⟩ ⟨rdL b R.L, R.m, R.c⟩) := ⟨HB2.out.kp kV2, HP.out.take b⟩
          clear hV2 hH2 kV2 HB2
          go_upto_region 10 with fail
          rw [← HV2.out.1, ← HV2.out.2]
          clear HV2
          cases f <;>
          · go_wp2
            go_meet
            exact ⟨_, _, by show S.c ≤ S.c + 1; omega, HE⟩
        | false =>
          obtain ⟨sx, esx⟩ : ∃ s, s = scS d od := ⟨_, rfl⟩
          have hSec : ∀ W, Calls Try.prog 14 #[.int .u8 (d : Int), .bool od] W fun e w' => e = .returned (.string sx) ∧ Kp W w' := fun W => by rw [esx]; exact sector_any d hd256 od W
          clear esx
          have Pk : ∀ {X X' : World} {S' R' : QS}, Pb w X q r S' R' H #[.int .i64 b, .int .u8 (d : Int), .bool od, .bool false] 29 → Kp X X' → Pb w X' q r S' R' H #[.int .i64 b, .int .u8 (d : Int), .bool od, .bool false] 29 := fun h k => h.kp k
          have hS : ∀ S' R' X, Pb w X q r S' R' H #[.int .i64 b, .int .u8 (d : Int), .bool od, .bool false] 29 → X.cell? ⟨H, 0, none⟩ = some (.int .i64 b) ∧ X.cell? ⟨H, 1, none⟩ = some (.int .u8 (d : Int)) ∧ X.cell? ⟨H, 2, none⟩ = some (.bool od) := fun S' R' X h => by
            obtain ⟨q0, q1, q2, _⟩ := HBC.out X S' R' h
            exact ⟨q0, q1, q2⟩
          have cSc := fun S' R' X (h : Pb w X q r S' R' H #[.int .i64 b, .int .u8 (d : Int), .bool od, .bool false] 29) => (hSec X).mono fun e X' (h2 : e = .returned (.string sx) ∧ Kp X X') => (⟨h2.1, h.kp h2.2⟩ : e = .returned (.string sx) ∧ Pb w X' q r S' R' H #[.int .i64 b, .int .u8 (d : Int), .bool od, .bool false] 29)
          have cP1 : ∀ X, Pb w X q r S R H #[.int .i64 b, .int .u8 (d : Int), .bool od, .bool false] 29 → Calls Try.prog 13 #[.pointer (some ⟨q, 0, none⟩), .int .i64 b, .string sx] X fun e X' => e = .returned (.int .i64 (ptE S b sx)) ∧ Pb w X' q r (ptS S b sx) R H #[.int .i64 b, .int .u8 (d : Int), .bool od, .bool false] 29 := fun X h => by
            have h0 := h
            obtain ⟨T1, T2, h1, _⟩ := h0
            refine (qput_any h1 HP.out.g b sx).mono ?_
            rintro e X' ⟨rfl, hz⟩
            refine ⟨rfl, h.one (fun T1' h' => ?_)⟩
            obtain ⟨v1, rfl, g1, _⟩ := h1
            obtain ⟨v2, rfl, g2, _⟩ := h'
            rw [g1] at g2
            have : v1 = v2 := by simp at g2; exact g2
            rw [← this]
            exact hz
          have hRc0 : 0 ≤ R.c := by rw [HP.out.c]; exact HP.out.g.c0
          have hRcm : R.c ≤ 1000000000 := by rw [HP.out.c]; exact HP.out.g.cm
          have cP2 : ∀ X, Pb w X q r (ptS S b sx) R H #[.int .i64 b, .int .u8 (d : Int), .bool od, .bool false] 29 → Calls Try.prog 15 #[.pointer (some ⟨r, 0, none⟩), .int .i64 b, .string sx] X fun e X' => e = .returned (.int .i64 (ptE S b sx)) ∧ Pb w X' q r (ptS S b sx) (rpS R b sx) H #[.int .i64 b, .int .u8 (d : Int), .bool od, .bool false] 29 := fun X h => by
            have h0 := h
            obtain ⟨T1, T2, _, h1, _⟩ := h0
            refine (rput_any h1 HP.out.l hRc0 hRcm b sx).mono ?_
            rintro e X' ⟨rfl, hz⟩
            refine ⟨by rw [HP.out.pt], h.two (fun T1' h' => ?_)⟩
            obtain ⟨v1, rfl, g1, _⟩ := h1
            obtain ⟨v2, rfl, g2, _⟩ := h'
            rw [g1] at g2
            have : v1 = v2 := by simp at g2; exact g2
            rw [← this]
            exact hz
          have hr0 : Pb w V q r S R H #[.int .i64 b, .int .u8 (d : Int), .bool od, .bool false] 29 := HB.out
          have hr1 : Pb w V.drew q r S R H #[.int .i64 b, .int .u8 (d : Int), .bool od, .bool false] 29 := HB.out.kp ((Kp.refl V).drew)
          clear Pk HB
          go_wp2_with fail
          go_region_held3 (fun X => X.cell? ⟨H, 0, none⟩ = some (.int .i64 b) ∧ X.cell? ⟨H, 1, none⟩ = some (.int .u8 (d : Int)) ∧ X.cell? ⟨H, 2, none⟩ = some (.bool od)) (exact hS _ _ _ (by assumption)) (first
            | (go_at_call 13; refine (cP1 _ (by assumption)).mono ?_; rintro e vb ⟨rfl, kb⟩)
            | (go_at_call 15; refine (cP2 _ (by assumption)).mono ?_; rintro e vc ⟨rfl, kc⟩)
            | (go_at_call 14; refine (cSc _ _ _ (by assumption)).mono ?_; rintro e va ⟨rfl, ka⟩))
          have HE : Hid (Pb w vc q r (ptS S b sx) (rpS R b sx) H #[.int .i64 b, .int .u8 (d : Int), .bool od, .bool false] 29 ∧ Pq (ptS S b sx) (rpS R b sx)) := ⟨kc, HP.out.put b sx (by omega)⟩
          have hcs := (pt_c S b sx).1
          clear cP1 cP2 cSc hS hr0 hr1 kc
          go_wp2
          go_meet
          exact ⟨_, _, hcs, HE⟩
      case rest =>
      obtain ⟨S', R', hSc, HE⟩ := hcut
      rename World => X
      obtain ⟨e0, e1, e2, e3⟩ := HBC.out _ _ _ HE.out.1
      have HE2 : Hid (∃ T1 T2, QX w X q T1 S' ∧ RX w X r T2 R' ∧ Dj T1 T2 ∧ Kp w X) := HE.out.1.pz
      have HP2 : Hid (Pq S' R') := HE.out.2
      clear HE HP e1 e2 e3
      obtain ⟨T1, T2, hq, hr, hdj, hkw⟩ := HE2.out
      have hG := qget_any hq HP2.out.g b
      have hFi := fun Y (k : Kp X Y) => rfind_any (hr.kept k) HP2.out.l b
      obtain ⟨x, hx⟩ : ∃ x, x = gtI S'.L b := ⟨_, rfl⟩
      rw [← hx] at hG
      have HXx := hid hx
      clear hq hr hdj hkw hx
      go_wp2_with fail
      refine hG.mono ?_; rintro e y1 ⟨rfl, k1⟩
      have e0 := k1.held e0
      clear hG
      go_wp2_with fail
      refine (hFi y1 k1).mono ?_; rintro e y2 ⟨z, rfl, hfi, k2⟩
      clear hFi
      have k12 := k1.trans k2
      obtain ⟨T1, T2, hq, hr, hdj, hkw⟩ := HE2.out
      have hSm := fun Y (k : Kp y2 Y) => same_any ((hq.kept k12).kept k) ((hr.kept k12).kept k) HP2.out
      have HF : Hid (Pz w y2 q r S' R') := ⟨T1, T2, hq.kept k12, hr.kept k12, hdj, hkw.trans k12⟩
      have hSk2 : S'.c ≤ ((k + 1 : Nat) : Int) := by omega
      rcases hfi with ⟨rfl, hno⟩ | ⟨A, y, B, eA, rfl, ey, hA⟩
      · have hs0 : hsI S'.L b = false := by
          rw [HP2.out.hs]
          unfold hsI
          rw [List.any_eq_false]
          intro x hx
          simpa using hno x hx
        rw [hs0]
        clear hno hs0 hq hr hdj hkw k1 k2 k12 HE2 HXx
        go_wp2_with fail
        refine (hSm y2 (Kp.refl y2)).mono ?_; rintro e y3 ⟨rfl, k3⟩
        have HF3 : Hid (Pz w y3 q r S' R' ∧ Pq S' R') := ⟨HF.out.kp k3, HP2.out⟩
        clear hSm HF k3 HP2
        go_wp2
        go_roundw
        case rel => first | exact ⟨k + 1, S', R', by omega, by go_num, hSk2, HF3⟩ | (repeat apply Exists.intro) <;> exact ⟨⟨k + 1, S', R', by omega, by go_num, hSk2, HF3⟩, rfl⟩
        case measure => simp [intOf]; omega
      · have hs1 : hsI S'.L b = true := by rw [HP2.out.hs, eA]; exact hs_hit ey
        rw [hs1]
        have hxy : x = y := by
          rw [HXx.out, HP2.out.get]
          unfold gtI
          rw [eA, get_hitN hA ey]
          rfl
        obtain ⟨p, g, cap, hp, hle, hcp, _, rc1, _, _, hcl⟩ := (hr.kept k12).cells
        have hil : A.length < R'.L.length := by rw [eA]; simp
        obtain ⟨rfl, _, _, _⟩ := hp (by omega)
        have d1 := (hcl A.length hil).2.1
        rw [show R'.L.getD A.length iz = y from by rw [eA, List.getD_eq_getElem?_getD, List.getElem?_append_right (Nat.le_refl _)]; simp, ← hxy] at d1
        obtain ⟨i, hi⟩ : ∃ i, i = A.length := ⟨_, rfl⟩
        obtain ⟨n, hn⟩ : ∃ n, n = R'.L.length := ⟨_, rfl⟩
        rw [← hi] at d1 hil ⊢
        rw [← hn] at rc1 hle hil
        have hi3 : (i : Int) < (n : Int) := by omega
        have hi0 : (0 : Int) ≤ (i : Int) := by omega
        clear hs1 hq hr hdj hkw k1 k2 k12 HE2 HXx hxy hp hcl eA ey hA hi hn
        go_wp2_with fail
        refine (hSm _ (Kp.refl _)).mono ?_; rintro e y3 ⟨rfl, k3⟩
        have HF3 : Hid (Pz w y3 q r S' R' ∧ Pq S' R') := ⟨HF.out.kp k3, HP2.out⟩
        clear hSm HF k3 HP2 rc1 d1
        go_wp2
        go_roundw
        case rel => first | exact ⟨k + 1, S', R', by omega, by go_num, hSk2, HF3⟩ | (repeat apply Exists.intro) <;> exact ⟨⟨k + 1, S', R', by omega, by go_num, hSk2, HF3⟩, rfl⟩
        case measure => simp [intOf]; omega
    · go_wp2
      go_ret
      obtain ⟨_, _, _, _, _, h⟩ := HQ.out.1
      exact ⟨rfl, h⟩

set_option maxRecDepth 100000 in
theorem lifted (os : Os) (started : os.Started) (H : Type) (enc : TypeId × Value → H) :
    ReturnsInHanded {} Try.checked os 3 .any (Rows.queuePlaysSpec.pre6 enc Try.prog Try.f3 Rows.queuePlaysRow.domain false) (Rows.queuePlaysSpec.post enc Try.prog Try.f3 false true false false) := by
  refine returnsInHanded_of_change (C := Try.checked) own started (by kernel_rfl) Try.func3
    (ChangeSpec.witness6 (enc := enc) (C := Try.checked) false ⟨#[], #[.int .i64 0, .slice none 0 0], []⟩ 8 (by kernel_rfl) (by kernel_rfl) (by kernel_rfl) (by kernel_rfl)) ?_
  intro W base args ds gs before hval0 hW hcnd _
  have hval : ∀ (j : Nat) t v, Try.f3.params[j]? = some t → args[j]? = some v → Value.okWide Try.prog W .any base t v := hval0
  have hW' := hW
  have hlt := hW.lt
  obtain ⟨p, q, hA0, hV, rfl, hfz, hnd⟩ := hW
  have hA : DataW.TrodAll enc Try.prog W 0 (fun _ => true) true Try.f3.params.toList args.toList ds p := hA0
  have hAk := hA
  rw [Try.params3] at hA hval
  obtain ⟨v0, vs0, d0, ds0, p0, q0, hargs, rfl, rfl, h0, r0⟩ := trodAll_cons hA
  obtain ⟨v1, vs1, d1, ds1, p1, q1, rfl, rfl, rfl, h1, r1⟩ := trodAll_cons r0
  obtain ⟨rfl, rfl, rfl⟩ := trodAll_nil r1
  obtain rfl : args = #[v0, v1] := by cases args; simp_all
  obtain ⟨rfl, rfl⟩ := trodVars_none hV
  obtain ⟨a0, rfl, rfl, rfl, w0⟩ := open_int Try.underlying3 (hval 0 3 v0 rfl rfl) h0
  obtain ⟨l1, w1⟩ := open_as20 (hval 1 22 v1 rfl rfl) h1
  clear hA0 hval0
  simp only [List.append_nil] at hW' hAk hlt
  refine (walk W a0 v1 l1 w0 w1).mono fun e W' ⟨he, hg⟩ => ?_
  subst he
  exact ⟨_, rfl, post_kp (pv := []) hW' (fun _ _ _ => (trodAll_cons_mk (shut_bool Try.underlying4 _) trodAll_mk0)) (fun sp hsp => trodAll_stays laidOut (by rw [Try.params3]; exact of_decide_eq_true (by kernel_rfl)) hAk (fun x hx => Below.same hg (hlt x hx)) hsp) (fun _ _ => rfl) (by simp) hg⟩

theorem over : Rows.queuePlaysRow.holds Try.pinned (OpenSpec.ofChange Rows.queuePlaysSpec) :=
  OpenClaim.holds_of_wide 3 Try.f3 rfl rfl rfl rfl rfl rfl rfl ⟨rfl, rfl, rfl, rfl, rfl⟩ rfl rfl rfl rfl rfl (by kernel_rfl) Try.func3 (by kernel_rfl)
    (of_decide_eq_true (by kernel_rfl)) (by unfold Func.isWrapper; first | (rw [if_pos (by decide +kernel)]; kernel_rfl) | (rw [if_neg (by decide +kernel)]; exact ⟨rfl, rfl⟩))
    (fun os started H enc _ => lifted os started H enc)

end Go.Proofs.Ytdfdoinhkjoalaa.queuePlays
namespace Go.Proofs.Ytdfdoinhkjoalaa
theorem queuePlays_holds : Rows.QueuePlaysSaid := queuePlays.over
end Go.Proofs.Ytdfdoinhkjoalaa
