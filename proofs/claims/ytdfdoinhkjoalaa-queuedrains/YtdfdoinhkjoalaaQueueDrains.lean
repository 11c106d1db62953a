/-
  QueueDrains: for every input the law answers true, and its arguments read as before. No condition.
-/
import Derived.Test.YtdfdoinhkjoalaaRows
import Derived.Test.YtdfdoinhkjoalaaBufArgs
import Derived.Test.YtdfdoinhkjoalaaQuDrain
import Derived.WalkKit
import Derived.ProofKit
import Derived.OpenShut
import Derived.ShutString
import Derived.Deep.QuietTactic
import Derived.BigQuiet
import Derived.Deep.RegionWith
import Derived.Deep.RegionHeld3
import Derived.Deep.DeepCutAuto
import Derived.Deep.CutBlock
namespace Go.Proofs.Ytdfdoinhkjoalaa.queueDrains
open Go.ChangeShapes Go.WideShapes Go.ChangeAt Go.RowKit
open Go.ChangeMaps (open_string shut_string)
open Go.Proofs.Ytdfdoinhkjoalaa Plain
set_option linter.unusedVariables false

theorem own : ownKnob Try.prog.godebug = none := by kernel_rfl
theorem laidOut : laidOutB Try.prog = true := by kernel_rfl
theorem size_ne {d : ByteArray} (h : d.size = 64) : (d.toList == []) = false := by
  have : d.toList.length = 64 := by rw [ByteArray.toList_eq, Array.length_toList]; exact h
  cases hd : d.toList with
  | nil => rw [hd] at this; simp at this
  | cons x l => rfl
set_option maxRecDepth 100000 in
set_option maxHeartbeats 8000000 in
theorem walk (w : World) (a0 : Value) (l0 : List QA) (w0 : Acts w a0 l0) :
    Calls Try.prog 5 #[a0] w fun e w' => e = .returned (.bool true) ∧ Kp w w' := by
  obtain ⟨⟨pa, pc, rfl, hp1, hp2, hp3⟩, hok⟩ := w0
  obtain ⟨ln, hln⟩ : ∃ ln, ln = l0.length := ⟨_, rfl⟩
  obtain ⟨pg, po, hpa, hpc⟩ : ∃ pg po, (0 < ln → pa = some ⟨pg, po, none⟩) ∧ ∀ i, i < ln → w.rangeAt pg (po + i * 4) (acs (l0.getD i noA)) := by
    by_cases h0 : 0 < l0.length
    · obtain ⟨g, off, rfl, h⟩ := hp3 h0
      exact ⟨g, off, fun _ => rfl, fun i hi => h i (by omega)⟩
    · exact ⟨0, 0, fun h => absurd h (by omega), fun i hi => absurd hi (by omega)⟩
  rw [← hln] at hp1 ⊢
  have HPC : Hid (∀ V, Kp w V → ∀ i, i < ln → (V.cell? ⟨pg, po + i * 4, none⟩ = some (.int .i64 (l0.getD i noA).b) ∧ V.cell? ⟨pg, po + i * 4 + 1, none⟩ = some (.int .u8 ((l0.getD i noA).d : Int)) ∧ V.cell? ⟨pg, po + i * 4 + 2, none⟩ = some (.bool (l0.getD i noA).odd) ∧ V.cell? ⟨pg, po + i * 4 + 3, none⟩ = some (.bool (l0.getD i noA).out)) ∧ (l0.getD i noA).d < 256 ∧ iOk (l0.getD i noA).b) := fun V k i hi => by
    have h := a_cells (hpc i hi)
    have h2 := hok i (by omega)
    exact ⟨⟨k.held h.1, k.held h.2.1, k.held h.2.2.1, k.held h.2.2.2⟩, h2.d, wf_le h2.b⟩
  clear hp3 hpc hok hln
  obtain ⟨kk, ekk⟩ : ∃ k, k = min ln 80 := ⟨_, rfl⟩
  have hmin : ∀ ts t W, (Builtin.min_ ts t #[.int .i64 (ln : Int), .int .i64 80]).run Try.prog W = .ok (.int .i64 (kk : Int)) W := fun ts t W => by
    rw [imin ts t _ _ W]
    congr 2
    omega
  have hk1 : kk ≤ ln := by omega
  have hk80 : kk ≤ 80 := by omega
  clear ekk
  have hmm : ∀ (t : TypeId) (W : World), (Instr.makeMap t none).run Try.prog W = .ok (.map (some W.heap.size)) (W.alloc (.map #[] 0)) := fun _ _ => rfl
  have hN := qnew_any w 256 w (Nat.le_refl _)
  rw [show qm 256 = 256 from rfl] at hN
  go_enter Try.func5, Try.ntmps5
  go_wp2_with fail
  refine hN.mono ?_; rintro e u1 ⟨q, T1, rfl, x1, k1, t1⟩
  clear hN
  obtain ⟨U, hU⟩ : ∃ U, U = u1.alloc (.map #[] 0) := ⟨_, rfl⟩
  obtain ⟨M, hM⟩ : ∃ M, M = u1.heap.size := ⟨_, rfl⟩
  have kU : Kp u1 U := by rw [hU]; exact (Kp.refl u1).alloc _
  have hM0 : MpS U M 0 0 (fun _ => none) (.map []) := by rw [hU, hM]; exact MpS.made u1
  have hMT : M ∉ T1 := fun h => by have := OL.qx.low x1 M h; omega
  have hMw : w.heap.size ≤ M := by rw [hM]; exact k1.size
  have H0 : Hid (QX w U q T1 ⟨[], 256, 0⟩ ∧ Kp w U ∧ MpS U M 0 0 (fun _ => none) (.map []) ∧ M ∉ T1 ∧ Dr ⟨[], 256, 0⟩ (fun _ => none) 0 (-1) ∧ Fq ⟨[], 256, 0⟩ (fun _ => none)) := ⟨x1.kept kU, k1.trans kU, hM0, hMT, Dr.new 256, fun _ => rfl⟩
  have HU : Hid (U = u1.alloc (.map #[] 0) ∧ M = u1.heap.size) := ⟨hU, hM⟩
  have HMw := hid hMw
  clear hU hM kU hM0 hMT hMw x1 k1 t1
  go_upto_region 3 with fail
  rw [← HU.out.1, ← HU.out.2]
  clear HU
  go_cut [21, 22, 23] (fun p qq i wx => ∃ a', p = .slice a' kk pc ∧ qq = .int .i64 (kk : Int) ∧ i = .int .i64 ((0 : Nat) : Int) ∧ (0 < kk → a' = some ⟨pg, po, none⟩) ∧ U = wx)
  case first =>
    by_cases h0 : 0 < ln
    · obtain rfl := hpa h0
      go_wp2_with fail
      go_meet
      exact ⟨_, rfl, rfl, rfl, fun _ => rfl, rfl⟩
    · have hn0 : ln = 0 := by omega
      subst hn0
      obtain rfl : kk = 0 := by omega
      cases pa with
      | none =>
        go_wp2_with fail
        go_meet
        exact ⟨_, rfl, rfl, rfl, fun h => absurd h (by omega), rfl⟩
      | some ad =>
        go_wp2_with fail
        go_meet
        exact ⟨_, rfl, rfl, rfl, fun h => absurd h (by omega), rfl⟩
  case rest =>
  obtain ⟨a', rfl, rfl, rfl, ha', rfl⟩ := hcut
  go_wp2_with fail
  go_loopw [23] (fun i wr => ∃ (k n c : Nat) (T : List Nat) (S : QS) (F : Int → Option ByteArray) (D : DataW Unit), k ≤ kk ∧ i = .int .i64 k ∧ n ≤ k ∧ c ≤ k ∧ S.c ≤ k ∧ Hid (QX w wr q T S ∧ Kp w wr ∧ MpS wr M n c F D ∧ M ∉ T ∧ Dr S F c (-1) ∧ Fq S F)) (fun i _ => kk - (intOf i).toNat)
  case atStart => exact ⟨0, 0, 0, T1, ⟨[], 256, 0⟩, _, _, by omega, by go_num, by omega, by omega, by simp, H0⟩
  case round =>
    clear H0
    obtain ⟨k, n, c, T, S, F, D, hk, rfl, hnk, hck, hSk, HQ⟩ := hrel
    by_cases hlt : k < kk
    · obtain rfl := ha' (by omega)
      obtain ⟨⟨c0, c1, c2, c3⟩, hd256, hbok⟩ := HPC.out wr HQ.out.2.1 k (by omega)
      obtain ⟨b, eb⟩ : ∃ z, z = (l0.getD k noA).b := ⟨_, rfl⟩
      obtain ⟨d, ed⟩ : ∃ z, z = (l0.getD k noA).d := ⟨_, rfl⟩
      obtain ⟨od, eo⟩ : ∃ z, z = (l0.getD k noA).odd := ⟨_, rfl⟩
      obtain ⟨ou, eu⟩ : ∃ z, z = (l0.getD k noA).out := ⟨_, rfl⟩
      rw [← eb] at c0 hbok
      rw [← ed] at c1 hd256
      rw [← eo] at c2
      rw [← eu] at c3
      obtain ⟨V, hV⟩ : ∃ V, V = wr.alloc (.cells #[.int .i64 b, .int .u8 (d : Int), .bool od, .bool ou] 29) := ⟨_, rfl⟩
      obtain ⟨H, hH⟩ : ∃ H, H = wr.heap.size := ⟨_, rfl⟩
      have e0 : V.cell? ⟨H, 0, none⟩ = some (.int .i64 b) := by rw [hV, hH, World.cell?_alloc_at _ _ _ _ rfl]; rfl
      have e1 : V.cell? ⟨H, 1, none⟩ = some (.int .u8 (d : Int)) := by rw [hV, hH, World.cell?_alloc_at _ _ _ _ rfl]; rfl
      have kV : Kp wr V := by rw [hV]; exact (Kp.refl wr).alloc _
      have HV : Hid (V = wr.alloc (.cells #[.int .i64 b, .int .u8 (d : Int), .bool od, .bool ou] 29) ∧ H = wr.heap.size) := ⟨hV, hH⟩
      obtain ⟨sx, esx⟩ : ∃ s, s = scS d false := ⟨_, rfl⟩
      have hs64 : sx.size = 64 := by rw [esx]; exact scS_size d
      have hSec : ∀ W, Calls Try.prog 14 #[.int .u8 (d : Int), .bool false] W fun e w' => e = .returned (.string sx) ∧ Kp W w' := fun W => by rw [esx]; exact sector_any d hd256 false W
      have cSc := fun X (k : Kp V X) => (hSec X).mono fun e X' (h : e = .returned (.string sx) ∧ Kp X X') => (⟨h.1, k.trans h.2⟩ : e = .returned (.string sx) ∧ Kp V X')
      have hS : ∀ X, Kp V X → X.cell? ⟨H, 0, none⟩ = some (.int .i64 b) ∧ X.cell? ⟨H, 1, none⟩ = some (.int .u8 (d : Int)) := fun X k => ⟨k.held e0, k.held e1⟩
      have hHT : H ∉ T := fun h => by have := OL.qx.low HQ.out.1 H h; omega
      have hHM : H ≠ M := fun h => by have := HQ.out.2.2.1.lt; omega
      have hPt := fun X (k : Kp V X) => (qput_any (HQ.out.1.kept (kV.trans k)) HQ.out.2.2.2.2.1.g b sx).mono fun e X' (h : e = .returned (.int .i64 (ptE S b sx)) ∧ Nz QX w X X' q T (ptS S b sx)) => (⟨h.1, X, k, h.2⟩ : e = .returned (.int .i64 (ptE S b sx)) ∧ ∃ X0, Kp V X0 ∧ Nz QX w X0 X' q T (ptS S b sx))
      have hS2 : ∀ X', (∃ X0, Kp V X0 ∧ Nz QX w X0 X' q T (ptS S b sx)) → X'.cell? ⟨H, 0, none⟩ = some (.int .i64 b) ∧ X'.cell? ⟨H, 1, none⟩ = some (.int .u8 (d : Int)) := fun X' ⟨X0, k, T', _, s, _⟩ => ⟨s.held (k.held e0) hHT, s.held (k.held e1) hHT⟩
      have hr0 : Kp V V.drew := (Kp.refl V).drew
      have KV := hid kV
      have HH : Hid (H ∉ T ∧ H ≠ M) := ⟨hHT, hHM⟩
      clear eb ed eo eu hV hH esx hd256 kV hHT hHM
      go_upto_region 6 with fail
      rw [← HV.out.1, ← HV.out.2]
      clear HV c0 c1 c2 c3
      go_region_held3 (fun X => X.cell? ⟨H, 0, none⟩ = some (.int .i64 b) ∧ X.cell? ⟨H, 1, none⟩ = some (.int .u8 (d : Int))) (first | exact hS _ (by assumption) | exact hS2 _ (by assumption)) (first
        | (go_at_call 14; refine (cSc _ (by assumption)).mono ?_; rintro e va ⟨rfl, ka⟩)
        | (go_at_call 13; refine (hPt _ (by assumption)).mono ?_; rintro e vb ⟨rfl, kb⟩))
      obtain ⟨X0, kX0, T', xq, sp, nw⟩ := kb
      have hMT' : M ∉ T' := fun h => by
        rcases nw M h with h1 | h1
        · exact HQ.out.2.2.2.1 h1
        · have := (HQ.out.2.2.1.kp (KV.out.trans kX0)).lt; omega
      have hHT' : H ∉ T' := fun h => by
        rcases nw H h with h1 | h1
        · exact HH.out.1 h1
        · have hlt0 : H < X0.heap.size := World.block_lt_of_cell? _ _ (kX0.held e0)
          omega
      have kb1 : Kp w vb := Sp.kp (HQ.out.2.1.trans (KV.out.trans kX0)) sp (OL.qx.new HQ.out.1)
      have mb := (HQ.out.2.2.1.kp (KV.out.trans kX0)).sp sp HQ.out.2.2.2.1
      have b0 : vb.cell? ⟨H, 0, none⟩ = some (.int .i64 b) := sp.held (kX0.held e0) HH.out.1
      have b1 : vb.cell? ⟨H, 1, none⟩ = some (.int .u8 (d : Int)) := sp.held (kX0.held e1) HH.out.1
      have HB : Hid (QX w vb q T' (ptS S b sx) ∧ Kp w vb ∧ MpS vb M n c F D ∧ M ∉ T' ∧ H ∉ T') := ⟨xq, kb1, mb, hMT', hHT'⟩
      clear cSc hPt hS hS2 xq sp nw kX0 kb1 mb hMT' hHT' hr0 e0 e1
      by_cases he : ptE S b sx = 0
      · obtain ⟨dr, fq⟩ := HQ.out.2.2.2.2.1.put HQ.out.2.2.2.2.2 he (by omega)
        have HD : Hid (Dr (ptS S b sx) (fun j => if j = b then some sx else F j) (if (F b).isSome = true then c else c + 1) (-1) ∧ Fq (ptS S b sx) (fun j => if j = b then some sx else F j) ∧ (ptS S b sx).c = S.c + 1) := ⟨dr, fq, by rw [pt_ok he]⟩
        rw [he]
        obtain ⟨S', hS'⟩ : ∃ S', S' = ptS S b sx := ⟨_, rfl⟩
        rw [← hS'] at HB HD
        clear dr fq hS' he
        have cSc := fun X (k : Kp vb X) => (hSec X).mono fun e X' (h : e = .returned (.string sx) ∧ Kp X X') => (⟨h.1, k.trans h.2⟩ : e = .returned (.string sx) ∧ Kp vb X')
        have hS : ∀ X, Kp vb X → X.cell? ⟨H, 0, none⟩ = some (.int .i64 b) ∧ X.cell? ⟨H, 1, none⟩ = some (.int .u8 (d : Int)) := fun X k => ⟨k.held b0, k.held b1⟩
        have hr0 : Kp vb vb.drew := (Kp.refl vb).drew
        have cP := fun X (k : Kp vb X) => (HB.out.2.2.1.kp k).put hbok (by omega) sx (by omega)
        go_upto_region 7 with fail
        go_region_held3 (fun X => X.cell? ⟨H, 0, none⟩ = some (.int .i64 b) ∧ X.cell? ⟨H, 1, none⟩ = some (.int .u8 (d : Int))) (first | exact hS _ (by assumption) | exact hS2 _ (by assumption)) (first
          | (go_at_call 14; refine (cSc _ (by assumption)).mono ?_; rintro e va2 ⟨rfl, ka2⟩; obtain ⟨w5, D5, hup, hM5, hg5⟩ := cP _ ka2; have hS2 : ∀ X, va2.grownBy X (some M) → X.cell? ⟨H, 0, none⟩ = some (.int .i64 b) ∧ X.cell? ⟨H, 1, none⟩ = some (.int .u8 (d : Int)) := fun X hg => ⟨(grown_sp hg).held (ka2.held b0) (by simpa using HH.out.2), (grown_sp hg).held (ka2.held b1) (by simpa using HH.out.2)⟩))
        have s5 := grown_sp hg5
        have x5 := OL.qx.sp (HB.out.1.kept ka2) s5 (fun t ht e => by simp at e; subst e; exact HB.out.2.2.2.1 ht)
        have k5 : Kp w w5 := Sp.kp (HB.out.2.1.trans ka2) s5 (fun t ht => by simp at ht; subst ht; exact HMw.out)
        obtain ⟨c5, hc5⟩ : ∃ x, x = (if (F b).isSome = true then c else c + 1) := ⟨_, rfl⟩
        rw [← hc5] at hM5 HD
        have hc5k : c5 ≤ k + 1 := by rw [hc5]; split <;> omega
        have H5 : Hid (QX w w5 q T' S' ∧ Kp w w5 ∧ MpS w5 M (n + 1) c5 (fun j => if j = b then some sx else F j) D5 ∧ M ∉ T' ∧ Dr S' (fun j => if j = b then some sx else F j) c5 (-1) ∧ Fq S' (fun j => if j = b then some sx else F j)) := ⟨x5, k5, hM5, HB.out.2.2.2.1, HD.out.1, HD.out.2.1⟩
        have hS5 : S'.c ≤ ((k + 1 : Nat) : Int) := by have := HD.out.2.2; omega
        clear hM5 hup hg5 ka2 cP cSc hS hS2 hc5 b0 b1 hr0 s5 x5 k5 HB HD HQ HH
        go_wp2
        go_roundw
        case rel => first | exact ⟨k + 1, n + 1, c5, T', S', _, D5, by omega, by go_num, by omega, hc5k, hS5, H5⟩ | (repeat apply Exists.intro) <;> exact ⟨⟨k + 1, n + 1, c5, T', S', _, D5, by omega, by go_num, by omega, hc5k, hS5, H5⟩, rfl⟩
        case measure => simp [intOf]; omega
      · have hSS : ptS S b sx = S := pt_no he
        have H5 : Hid (QX w vb q T' S ∧ Kp w vb ∧ MpS vb M n c F D ∧ M ∉ T' ∧ Dr S F c (-1) ∧ Fq S F) := by
          have q1 := HB.out
          rw [hSS] at q1
          exact ⟨q1.1, q1.2.1, q1.2.2.1, q1.2.2.2.1, HQ.out.2.2.2.2.1, HQ.out.2.2.2.2.2⟩
        obtain ⟨ee, hee⟩ : ∃ ee, ee = ptE S b sx := ⟨_, rfl⟩
        rw [← hee] at he ⊢
        have he2 : (ee == 0) = false := by simpa using he
        clear hee hSS HB HQ HH b0 b1
        go_wp2
        go_roundw
        case rel => first | exact ⟨k + 1, n, c, T', S, F, D, by omega, by go_num, by omega, by omega, by omega, H5⟩ | (repeat apply Exists.intro) <;> exact ⟨⟨k + 1, n, c, T', S, F, D, by omega, by go_num, by omega, by omega, by omega, H5⟩, rfl⟩
        case measure => simp [intOf]; omega
    · rename World => U1
      have hlen := HQ.out.2.2.1.len
      have H0 : Hid (∃ T S, QX w U1 q T S ∧ Kp w U1 ∧ MpS U1 M n c F D ∧ M ∉ T ∧ Dr S F c (-1)) := ⟨T, S, HQ.out.1, HQ.out.2.1, HQ.out.2.2.1, HQ.out.2.2.2.1, HQ.out.2.2.2.2.1⟩
      clear HQ hSk
      go_wp2_with fail
      go_loopw [45, 7] (fun i ag wr => ∃ (j : Nat) (la : Int), j ≤ c ∧ i = .int .i64 j ∧ ag = .int .i64 la ∧ Hid (∃ T S, QX w wr q T S ∧ Kp w wr ∧ MpS wr M n c F D ∧ M ∉ T ∧ Dr S F (c - j) la)) (fun i _ _ => c - (intOf i).toNat)
      case atStart => exact ⟨0, -1, by omega, by go_num, rfl, H0⟩
      case round =>
        clear H0
        obtain ⟨j, la, hj, rfl, rfl, HT⟩ := hrel
        by_cases hjc : j < c
        · obtain ⟨T2, S2, x2, k2, m2, hm2, dr2⟩ := HT.out
          obtain ⟨c', hc'⟩ : ∃ c', c - j = c' + 1 := ⟨c - j - 1, by omega⟩
          rw [hc'] at dr2
          obtain ⟨n1, n2, n3, n4, n5, n6, n7⟩ := dr2.next
          have hO := qold_any x2 dr2.g.l
          rw [decide_eq_true (show 0 < S2.L.length by rw [dr2.n]; omega)] at hO
          obtain ⟨x, hx⟩ : ∃ x, x = olI S2.L := ⟨_, rfl⟩
          rw [← hx] at n1 n2 n3 n4 n5 n6 n7 hO
          have hjc2 : (j : Int) < (c : Int) := by omega
          have HX : Hid (QX w wr q T2 S2 ∧ Kp w wr ∧ MpS wr M n c F D ∧ M ∉ T2 ∧ Qg S2) := ⟨x2, k2, m2, hm2, dr2.g⟩
          have HD : Hid (Dr ⟨delL S2.L x.b, S2.m, S2.c⟩ F c' x.g ∧ gtI S2.L x.b = x ∧ hsI S2.L x.b = true) := ⟨n7, n1, n2⟩
          clear dr2 x2 k2 m2 hm2 hx n7 n1 n2 HT
          go_wp2_with fail
          refine hO.mono ?_; rintro e v1 ⟨rfl, k1⟩
          clear hO
          unfold itV
          obtain ⟨V1, hV1⟩ : ∃ V1, V1 = v1.alloc (.cells #[.int .i64 x.b, .string x.d, .int .i64 x.g] 31) := ⟨_, rfl⟩
          obtain ⟨H1, hH1⟩ : ∃ H1, H1 = v1.heap.size := ⟨_, rfl⟩
          have kV1 : Kp wr V1 := by rw [hV1]; exact k1.alloc _
          have a0 : V1.cell? ⟨H1, 0, none⟩ = some (.int .i64 x.b) := by rw [hV1, hH1, World.cell?_alloc_at _ _ _ _ rfl]; rfl
          have a1 : V1.cell? ⟨H1, 1, none⟩ = some (.string x.d) := by rw [hV1, hH1, World.cell?_alloc_at _ _ _ _ rfl]; rfl
          have a2 : V1.cell? ⟨H1, 2, none⟩ = some (.int .i64 x.g) := by rw [hV1, hH1, World.cell?_alloc_at _ _ _ _ rfl]; rfl
          have HV1 : Hid (V1 = v1.alloc (.cells #[.int .i64 x.b, .string x.d, .int .i64 x.g] 31) ∧ H1 = v1.heap.size) := ⟨hV1, hH1⟩
          have hT := qtake_any (HX.out.1.kept kV1) HX.out.2.2.2.2 x.b
          rw [HD.out.2.1, HD.out.2.2] at hT
          have HX1 : Hid (QX w V1 q T2 S2 ∧ Kp w V1 ∧ MpS V1 M n c F D ∧ M ∉ T2 ∧ H1 ∉ T2) := ⟨HX.out.1.kept kV1, HX.out.2.1.trans kV1, HX.out.2.2.1.kp kV1, HX.out.2.2.2.1, fun h => by have := OL.qx.low (HX.out.1.kept k1) H1 h; omega⟩
          clear hV1 hH1 kV1 k1 HX
          go_upto_region 14 with fail
          rw [← HV1.out.1, ← HV1.out.2]
          clear HV1
          go_wp2_with fail
          refine hT.mono ?_; rintro e v2 ⟨rfl, z2⟩
          obtain ⟨T3, x3, s3, w3⟩ := z2
          have a0 := s3.held a0 HX1.out.2.2.2.2
          have a1 := s3.held a1 HX1.out.2.2.2.2
          have a2 := s3.held a2 HX1.out.2.2.2.2
          have hM3 : M ∉ T3 := fun h => by
            rcases w3 M h with h1 | h1
            · exact HX1.out.2.2.2.1 h1
            · have := HX1.out.2.2.1.lt; omega
          have k3 : Kp w v2 := Sp.kp HX1.out.2.1 s3 (OL.qx.new HX1.out.1)
          have m3 := HX1.out.2.2.1.sp s3 HX1.out.2.2.2.1
          clear hT w3 s3 HX1
          unfold itV
          obtain ⟨V2, hV2⟩ : ∃ V2, V2 = v2.alloc (.cells #[.int .i64 x.b, .string x.d, .int .i64 x.g] 31) := ⟨_, rfl⟩
          obtain ⟨H2, hH2⟩ : ∃ H2, H2 = v2.heap.size := ⟨_, rfl⟩
          have kV2 : Kp v2 V2 := by rw [hV2]; exact (Kp.refl v2).alloc _
          have d0 : V2.cell? ⟨H2, 0, none⟩ = some (.int .i64 x.b) := by rw [hV2, hH2, World.cell?_alloc_at _ _ _ _ rfl]; rfl
          have d1 : V2.cell? ⟨H2, 1, none⟩ = some (.string x.d) := by rw [hV2, hH2, World.cell?_alloc_at _ _ _ _ rfl]; rfl
          have d2 : V2.cell? ⟨H2, 2, none⟩ = some (.int .i64 x.g) := by rw [hV2, hH2, World.cell?_alloc_at _ _ _ _ rfl]; rfl
          have a0 := kV2.held a0
          have a1 := kV2.held a1
          have a2 := kV2.held a2
          have HV2 : Hid (V2 = v2.alloc (.cells #[.int .i64 x.b, .string x.d, .int .i64 x.g] 31) ∧ H2 = v2.heap.size) := ⟨hV2, hH2⟩
          have hlk := (m3.kp kV2).look (i := x.b) ⟨by omega, by omega⟩ n4
          have HX3 : Hid (∃ T S, QX w V2 q T S ∧ Kp w V2 ∧ MpS V2 M n c F D ∧ M ∉ T ∧ Dr S F (c - (j + 1)) x.g) := ⟨T3, _, x3.kept kV2, k3.trans kV2, m3.kp kV2, hM3, by rw [show c - (j + 1) = c' by omega]; exact HD.out.1⟩
          have hla : decide (x.g ≤ la) = false := by simp; omega
          have hsz := size_ne n5
          have hsz2 : (x.d == (⟨#[]⟩ : ByteArray)) = false := by rw [beq_toListBytes, show (⟨#[]⟩ : ByteArray).toList = [] from by rw [ByteArray.toList_eq]]; exact hsz
          have hsz3 : (x.d == noS) = false := hsz2
          clear hV2 hH2 kV2 x3 k3 m3 hM3 n4 n5 n6 HD
          go_upto_region 15 with fail
          rw [← HV2.out.1, ← HV2.out.2]
          clear HV2
          go_wp2
          go_roundw
          case rel => first | exact ⟨j + 1, x.g, by omega, by go_num, rfl, HX3⟩ | (repeat apply Exists.intro) <;> exact ⟨⟨j + 1, x.g, by omega, by go_num, rfl, HX3⟩, rfl⟩
          case measure => simp [intOf]; omega
        · obtain rfl : j = c := by omega
          obtain ⟨T2, S2, x2, k2, m2, hm2, dr2⟩ := HT.out
          rw [Nat.sub_self] at dr2
          have hO := qold_any x2 dr2.g.l
          rw [decide_eq_false (show ¬ 0 < S2.L.length by rw [dr2.n]; omega)] at hO
          have HX : Hid (QX w wr q T2 S2 ∧ Kp w wr ∧ S2.L.length = 0) := ⟨x2, k2, dr2.n⟩
          clear dr2 x2 k2 m2 hm2 HT
          obtain ⟨x, hx⟩ : ∃ x, x = olI S2.L := ⟨_, rfl⟩
          rw [← hx] at hO
          clear hx
          go_wp2_with fail
          refine hO.mono ?_; rintro e v1 ⟨rfl, k1⟩
          clear hO
          unfold itV
          have k1' : Kp wr (v1.alloc (.cells #[.int .i64 x.b, .string x.d, .int .i64 x.g] 31)) := k1.alloc _
          go_wp2_with fail
          refine (qwakes_any _).mono ?_; rintro e v3 ⟨rfl, k3⟩
          have k4 := k1'.trans k3
          have hL := qlen_any (HX.out.1.kept k4) (by rw [HX.out.2.2]; omega)
          rw [HX.out.2.2] at hL
          have HK : Hid (Kp w v3) := HX.out.2.1.trans k4
          clear k1 k1' k3 k4 HX
          go_wp2_with fail
          refine hL.mono ?_; rintro e v4 ⟨rfl, k5⟩
          have HE : Hid (Kp w v4) := HK.out.trans k5
          clear hL k5 HK
          go_wp2
          go_ret
          exact ⟨rfl, HE.out⟩

set_option maxRecDepth 100000 in
theorem lifted (os : Os) (started : os.Started) (H : Type) (enc : TypeId × Value → H) :
    ReturnsInHanded {} Try.checked os 5 .any (Rows.queueDrainsSpec.pre6 enc Try.prog Try.f5 Rows.queueDrainsRow.domain false) (Rows.queueDrainsSpec.post enc Try.prog Try.f5 false true false false) := by
  refine returnsInHanded_of_change (C := Try.checked) own started (by kernel_rfl) Try.func5
    (ChangeSpec.witness6 (enc := enc) (C := Try.checked) false ⟨#[], #[.slice none 0 0], []⟩ 8 (by kernel_rfl) (by kernel_rfl) (by kernel_rfl) (by kernel_rfl)) ?_
  intro W base args ds gs before hval0 hW hcnd _
  have hval : ∀ (j : Nat) t v, Try.f5.params[j]? = some t → args[j]? = some v → Value.okWide Try.prog W .any base t v := hval0
  have hW' := hW
  have hlt := hW.lt
  obtain ⟨p, q, hA0, hV, rfl, hfz, hnd⟩ := hW
  have hA : DataW.TrodAll enc Try.prog W 0 (fun _ => true) true Try.f5.params.toList args.toList ds p := hA0
  have hAk := hA
  rw [Try.params5] at hA hval
  obtain ⟨v0, vs0, d0, ds0, p0, q0, hargs, rfl, rfl, h0, r0⟩ := trodAll_cons hA
  obtain ⟨rfl, rfl, rfl⟩ := trodAll_nil r0
  obtain rfl : args = #[v0] := by cases args; simp_all
  obtain ⟨rfl, rfl⟩ := trodVars_none hV
  obtain ⟨l0, w0⟩ := open_as20 (hval 0 22 v0 rfl rfl) h0
  clear hA0 hval0
  simp only [List.append_nil] at hW' hAk hlt
  refine (walk W v0 l0 w0).mono fun e W' ⟨he, hg⟩ => ?_
  subst he
  exact ⟨_, rfl, post_kp (pv := []) hW' (fun _ _ _ => (trodAll_cons_mk (shut_bool Try.underlying4 _) trodAll_mk0)) (fun sp hsp => trodAll_stays laidOut (by rw [Try.params5]; exact of_decide_eq_true (by kernel_rfl)) hAk (fun x hx => Below.same hg (hlt x hx)) hsp) (fun _ _ => rfl) (by simp) hg⟩

theorem over : Rows.queueDrainsRow.holds Try.pinned (OpenSpec.ofChange Rows.queueDrainsSpec) :=
  OpenClaim.holds_of_wide 5 Try.f5 rfl rfl rfl rfl rfl rfl rfl ⟨rfl, rfl, rfl, rfl, rfl⟩ rfl rfl rfl rfl rfl (by kernel_rfl) Try.func5 (by kernel_rfl)
    (of_decide_eq_true (by kernel_rfl)) (by unfold Func.isWrapper; first | (rw [if_pos (by decide +kernel)]; kernel_rfl) | (rw [if_neg (by decide +kernel)]; exact ⟨rfl, rfl⟩))
    (fun os started H enc _ => lifted os started H enc)

end Go.Proofs.Ytdfdoinhkjoalaa.queueDrains
namespace Go.Proofs.Ytdfdoinhkjoalaa
theorem queueDrains_holds : Rows.QueueDrainsSaid := queueDrains.over
end Go.Proofs.Ytdfdoinhkjoalaa
