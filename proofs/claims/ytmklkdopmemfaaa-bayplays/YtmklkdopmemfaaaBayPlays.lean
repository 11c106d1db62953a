/-
  BayPlays (P11.1 to P11.3): behind every calls a bay answers, and its members have, what the document says, step by step. No condition.
-/
import Derived.Test.YtmklkdopmemfaaaRows
import Derived.Test.YtmklkdopmemfaaaBufArgs
import Derived.Test.YtmklkdopmemfaaaByActs
import Derived.WalkKit
import Derived.ProofKit
import Derived.OpenShut
import Derived.ShutString
import Derived.Deep.QuietTactic
import Derived.BigQuiet
import Derived.Deep.RegionWith
import Derived.Deep.RegionHeld3
import Derived.Deep.DeepCutAuto
import Derived.Deep.CutBlock
namespace Go.Proofs.Ytmklkdopmemfaaa.bayPlays
open Go.ChangeShapes Go.WideShapes Go.ChangeAt Go.RowKit
open Go.ChangeMaps (open_string shut_string)
open Go.Proofs.Ytmklkdopmemfaaa Plain
set_option linter.unusedVariables false

theorem own : ownKnob Try.prog.godebug = none := by kernel_rfl
theorem laidOut : laidOutB Try.prog = true := by kernel_rfl
/-- bays alike but for their members' counts. -/
structure Ak (A B : BS) : Prop where
  n : A.ms.length = B.ms.length
  al : ∀ j, j < B.ms.length → Alk (A.ms.getD j noM) (B.ms.getD j noM)
theorem Ak.refl (B : BS) : Ak B B := ⟨rfl, fun _ _ => Alk.refl _⟩
theorem Ak.read {A B : BS} (h : Ak A B) (i : Nat) (hi : i < B.ms.length) (k : Int) : Ak (put A (i : Int) (rd (A.ms.getD i noM) k)) B := by
  refine ⟨?_, fun j hj => ?_⟩
  · show (A.ms.set (i : Int).toNat _).length = _
    rw [List.length_set]
    exact h.n
  · show Alk ((A.ms.set (i : Int).toNat _).getD j noM) _
    rw [Int.toNat_natCast]
    by_cases e : i = j
    · subst e
      rw [getD_set_eq (by rw [h.n]; exact hi)]
      exact (h.al i hi).rd k
    · rw [getD_set_ne e]
      exact h.al j hj
theorem Ak.fd {A B : BS} (h : Ak A B) {i : Nat} (hi : i < B.ms.length) : fdE A (i : Int) = 0 := by
  unfold fdE
  rw [h.n, if_pos ⟨by omega, by omega⟩]
/-- a member of the bay's, as it lies. -/
theorem bw_at {w0 V : World} {x : Nat} {P : List Nat} {A : BS} (h : Bw w0 V x P A) {i : Nat} (hi : i < A.ms.length) : ∃ z Z, (Calls Try.prog 12 #[.pointer (some ⟨x, 0, none⟩), .int .i64 (i : Int)] V fun e w' => e = .returned (.pointer (some ⟨z, 0, none⟩)) ∧ w' = V) ∧ Ow w0 V z Z (A.ms.getD i noM) ∧ ∀ w' S', Nx w0 V w' z Z S' → Right S' → S'.row.length ≤ A.g → Nz Bw w0 V w' x P (put A (i : Int) S') := by
  obtain ⟨m, X, F, rfl, hx⟩ := h
  have hf : fdE A (i : Int) = 0 := by unfold fdE; rw [if_pos ⟨by omega, by omega⟩]
  obtain ⟨Z, z1, z2, z3⟩ := hx.at hf
  have e : bm A (i : Int) = A.ms.getD i noM := by unfold bm; rw [Int.toNat_natCast]
  rw [e, Int.toNat_natCast] at z2
  rw [Int.toNat_natCast] at z3
  have hm := member_any hx (i : Int)
  unfold ptr at hm
  rw [if_pos hf, Int.toNat_natCast] at hm
  exact ⟨_, Z, hm, z2, z3⟩
theorem mem_at {B : BS} {i : Nat} (hi : i < B.ms.length) : B.ms.getD i noM ∈ B.ms := by
  rw [List.getD_eq_getElem?_getD, List.getElem?_eq_getElem hi]
  exact List.getElem_mem hi
set_option maxRecDepth 100000 in
set_option maxHeartbeats 4000000 in
theorem walkN (w : World) (a s : Int) (a2 : Value) (l1 : List A6) (i1 : Acts6 w a2 l1) :
    Calls Try.prog 3 #[.int .i64 a, .int .i64 s, a2] w fun e w' => e = .returned (.bool true) ∧ Kp w w' := by
  obtain ⟨q1, c1, rfl, _⟩ := i1.h
  obtain ⟨n1, hn1⟩ : ∃ n1, n1 = l1.length := ⟨_, rfl⟩
  have z1 : n1 ≤ c1 ∧ c1 ≤ 9223372036854775807 := by obtain ⟨a, cap, e, h1, h2, _⟩ := i1.h; simp only [Value.slice.injEq] at e; omega
  obtain ⟨z1, z2⟩ := z1
  rw [← hn1] at i1 ⊢
  have N1 := hid hn1
  have I1 := hid i1
  clear i1 hn1
  have hmin := @imin Try.prog
  obtain ⟨m1, e1⟩ : ∃ m : Nat, min (n1 : Int) 80 = (m : Int) := ⟨min n1 80, by omega⟩
  have hm1 : m1 ≤ n1 := by omega
  have hm3 : m1 ≤ 80 := by omega
  go_enter Try.func3, Try.ntmps3
  go_wp2_with fail
  refine (bw_new a s w w (Kp.refl w)).mono ?_
  rintro e u1 ⟨x, P, rfl, o1, k1, _⟩
  go_wp2_with fail
  refine (dw_new a s w u1 k1).mono ?_
  rintro e u2 ⟨y, R, rfl, o2, k2, t2⟩
  have hb0 : Both Bw Dw w u2 x y (P ++ R) (nwB a s) (nwB a s) := ⟨P, R, rfl, OL.bw.sp o1 (k2.sp []) (fun _ _ h => by cases h), o2, fun t h1 h2 => by have := OL.bw.low o1 t h1; have := t2 t h2; omega⟩
  have K2 := k1.trans k2
  obtain ⟨T, hT⟩ : ∃ T, T = P ++ R := ⟨_, rfl⟩
  obtain ⟨B0, hB0⟩ : ∃ B0, B0 = nwB a s := ⟨_, rfl⟩
  have HG0 : Hid (B0.g = 0) := by rw [hB0]; exact rfl
  rw [← hT, ← hB0] at hb0
  clear o1 o2 k1 k2 t2 hT hB0
  go_wp2_with fail
  refine (wakes_bay u2).mono ?_
  rintro e u3 ⟨rfl, k3⟩
  have hb3 := hb0.kp OL.bw OL.dw k3
  have K3 := K2.trans k3
  have hsm := same_bay (Bx.refl hb3)
  have HT3 := hid (hb3.new OL.bw OL.dw)
  have HK3 := hid K3
  clear hb0 K2 k3 hb3 K3
  go_wp2_with fail
  refine hsm.mono ?_
  rintro e W ⟨rfl, dW⟩
  have HKW := hid (dW.below HK3.out HT3.out)
  obtain ⟨T1, hb1, _, _⟩ := dW
  have HTW := hid (hb1.new OL.bw OL.dw)
  have HD0 : Hid (Bd w W x y T1 B0 B0 W) := Bx.refl hb1
  clear hsm hb1 HT3 HK3
  go_wp2_with fail
  go_loopw [36] (fun i wr => ∃ (k : Nat) (B : BS), k ≤ m1 ∧ i = .int .i64 k ∧ Hid (Bd w W x y T1 B B wr) ∧ Hid (B.g ≤ k)) (fun i _ => m1 - (intOf i).toNat)
  case atStart => exact ⟨0, B0, by omega, by go_num, HD0, by have := HG0.out; show B0.g ≤ 0; omega⟩
  case round =>
    clear HD0 HG0
    obtain ⟨k, B, hk, rfl, HD, HGk⟩ := hrel
    by_cases hlt : k < m1
    · skip
      have hkn : k < n1 := by omega
      have hks : k < l1.length := by rw [← N1.out]; exact hkn
      have KR := HD.out.below HKW.out HTW.out
      obtain ⟨qa, qc, eq, z1_, z2_, hq⟩ := (I1.out.kp KR).take m1 (by rw [← N1.out]; exact hm1)
      obtain ⟨g, off, hqq, hrg⟩ := hq (by omega)
      simp only [Value.slice.injEq] at eq
      obtain rfl : q1 = some ⟨g, off, none⟩ := eq.1.trans hqq
      obtain ⟨f0, f1, f2, f3, f4, f5⟩ := a6_cells (hrg k hlt)
      have fok := I1.out.ok k hks
      obtain ⟨a_, ha_⟩ : ∃ a_, a_ = l1.getD k noA6 := ⟨_, rfl⟩
      rw [← ha_] at f0 f1 f2 f3 f4 f5 fok
      obtain ⟨op_, i_, k_, d_, o_, kv_, KK_⟩ := a_
      simp only at f0 f1 f2 f3 f4 f5
      have hd8 : d_ < 256 := fok.d
      have hwA : (Lit.int .i64 k_).wf = true := fok.w3
      have hkl : KL w kv_ KK_ := fok.k
      obtain ⟨va, vc, hva, z3_⟩ := hkl.h
      subst hva
      obtain ⟨vn, hvn⟩ : ∃ vn, vn = KK_.length := ⟨_, rfl⟩
      rw [← hvn] at f5 hkl
      have HKL := hid hkl
      have HWA := hid hwA
      clear ha_ eq hqq hrg fok z1_ z2_ hq z3_ hvn hkl hwA
      obtain ⟨T2, hb2, sp2, nw2⟩ := HD.out
      obtain ⟨K, hK⟩ : ∃ K, K = wr.heap.size := ⟨_, rfl⟩
      obtain ⟨Wb, hWb⟩ : ∃ Wb, Wb = wr.alloc (.cells #[.int .i64 op_, .int .i64 i_, .int .i64 k_, .int .u8 (d_ : Int), .bool o_, .slice va vn vc] 31) := ⟨_, rfl⟩
      have kb : Kp wr Wb := by rw [hWb]; exact (Kp.refl wr).alloc _
      have C0 : Wb.cell? ⟨K, 0, none⟩ = some (.int .i64 op_) := by rw [hWb, World.cell?_alloc_at _ _ _ _ hK]; rfl
      have C1 : Wb.cell? ⟨K, 1, none⟩ = some (.int .i64 i_) := by rw [hWb, World.cell?_alloc_at _ _ _ _ hK]; rfl
      have C2 : Wb.cell? ⟨K, 2, none⟩ = some (.int .i64 k_) := by rw [hWb, World.cell?_alloc_at _ _ _ _ hK]; rfl
      have C3 : Wb.cell? ⟨K, 3, none⟩ = some (.int .u8 (d_ : Int)) := by rw [hWb, World.cell?_alloc_at _ _ _ _ hK]; rfl
      have C4 : Wb.cell? ⟨K, 4, none⟩ = some (.bool o_) := by rw [hWb, World.cell?_alloc_at _ _ _ _ hK]; rfl
      have C5 : Wb.cell? ⟨K, 5, none⟩ = some (.slice va vn vc) := by rw [hWb, World.cell?_alloc_at _ _ _ _ hK]; rfl
      have hb2' := hb2.kp OL.bw OL.dw kb
      have hact := act_bay (KR.trans kb) hb2' (by have := HGk.out; omega) op_ i_ k_ d_ o_ va vn vc KK_ hd8 HWA.out HKL.out
      have SP2 := hid (sp2.trans (kb.sp T1))
      have NW2 := hid nw2
      have HWb := hid hWb
      have HK := hid hK
      clear hWb hK kb sp2 nw2 hb2 hb2' KR hd8
      go_wp2_with fail
      rw [← HWb.out]
      refine hact.mono ?_
      rintro e V1 ⟨rfl, B', hg', d'⟩
      have D1 : Bd w W x y T1 B' B' V1 := Bx.trans SP2.out NW2.out d'
      have hsm := same_bay D1
      have HG' : Hid (B'.g ≤ k + 1) := by have := HGk.out; show B'.g ≤ k + 1; omega
      clear d' D1 hact hg' C0 C1 C2 C3 C4 C5 f0 f1 f2 f3 f4 f5 HWb HK
      go_wp2_with fail
      refine hsm.mono ?_
      rintro e V2 ⟨rfl, d2⟩
      have HD2 := hid d2
      clear d2 hsm
      go_wp2
      go_roundw
      case rel => exact ⟨k + 1, B', by omega, by go_num, HD2, HG'⟩
      case measure => simp [intOf]; omega
    · obtain rfl : k = m1 := by omega
      obtain ⟨V, hV⟩ : ∃ V, V = wr := ⟨_, rfl⟩
      have KR := HD.out.below HKW.out HTW.out
      obtain ⟨T2, ⟨P2, R2, rfl, hbw, ⟨m, cap, X, F, rfl, hrx⟩, dj⟩, _, _⟩ := HD.out
      rw [← hV] at KR hbw hrx ⊢
      have c0 := hrx.c0
      have k1 := hrx.k1
      have k2 := hrx.k2
      have hn32 := hrx.gd.n2
      obtain ⟨N, hN⟩ : ∃ N, N = B.ms.length := ⟨_, rfl⟩
      rw [← hN] at c0 k1 hn32
      have HN := hid hN
      have HRX := hid hrx
      have HBW := hid hbw
      have HDJ := hid dj
      have HKR := hid KR
      have HRt : Hid (∀ S ∈ B.ms, Right S) := hrx.gd.rt
      clear hN hrx hbw dj KR hV HD HGk
      go_wp2_with fail
      go_loopw [57] (fun i wr => ∃ (j : Nat) (A : BS), j ≤ N ∧ i = .int .i64 j ∧ Hid (Nz Bw w V wr x P2 A) ∧ Hid (Ak A B)) (fun i _ => N - (intOf i).toNat)
      case atStart => exact ⟨0, B, by omega, by go_num, Nz.refl HBW.out, Ak.refl B⟩
      case round =>
        clear c0
        obtain ⟨j, A, hj, rfl, HX, HA⟩ := hrel
        by_cases hjn : j < N
        · have hjB : j < B.ms.length := by rw [← HN.out]; exact hjn
          obtain ⟨V9, hV9⟩ : ∃ V9, V9 = wr := ⟨_, rfl⟩
          rw [← hV9] at HX ⊢
          have rx9 : RX w V9 y m cap X F B := by
            obtain ⟨_, _, q2, _⟩ := HX.out
            exact HRX.out.sp q2 HDJ.out.symm
          have ar := rx9.ar j hjB
          obtain ⟨Z, _, ⟨gs, cg, wv, _, hri, _⟩, _⟩ := rx9.atX j hjB
          have d0 := hri.c0
          have d1 := hri.k1
          have d2 := hri.k2
          have hl256 := hri.fine.n2
          obtain ⟨z, hz⟩ : ∃ z, z = X.getD j 0 := ⟨_, rfl⟩
          rw [← hz] at ar d0
          have HZ := hid hz
          obtain ⟨S, hS⟩ : ∃ S, S = B.ms.getD j noM := ⟨_, rfl⟩
          rw [← hS] at d0 d1 hl256
          have HS := hid hS
          obtain ⟨L, hL⟩ : ∃ L, L = S.las.length := ⟨_, rfl⟩
          rw [← hL] at d0 d1 hl256
          have HL := hid hL
          clear hz hS hL rx9 hri hV9
          go_wp2_with fail
          go_loopw [67] (fun i wr => ∃ (t : Nat) (A : BS), t ≤ L ∧ i = .int .i64 t ∧ Hid (Nz Bw w V wr x P2 A) ∧ Hid (Ak A B)) (fun i _ => L - (intOf i).toNat)
          case atStart => exact ⟨0, A, by omega, by go_num, HX, HA⟩
          case round =>
            clear HX HA ar d0
            obtain ⟨t, A', ht, rfl, HX, HA⟩ := hrel
            by_cases htl : t < L
            · have hjA : j < A'.ms.length := by rw [HA.out.n]; exact hjB
              have KX := HX.out.below OL.bw HBW.out HKR.out
              obtain ⟨P3, h3, s3, n3⟩ := HX.out
              obtain ⟨zz, Q3, hmem, how, hnz⟩ := bw_at h3 hjA
              have hrd := ow_read how KX (t : Int)
              have alk := HA.out.al j hjB
              rw [← HS.out] at alk
              have hR3 : Right (A'.ms.getD j noM) := h3.gd.rt _ (mem_at hjA)
              have hl3 : (A'.ms.getD j noM).row.length ≤ A'.g := h3.gd.rl _ (mem_at hjA)
              have hRS : Right S := by rw [HS.out]; exact HRt.out _ (mem_at hjB)
              obtain ⟨A2, hA2⟩ : ∃ A2, A2 = put A' (j : Int) (rd (A'.ms.getD j noM) (t : Int)) := ⟨_, rfl⟩
              have hak : Hid (Ak A2 B) := by rw [hA2]; exact HA.out.read j hjB (t : Int)
              have HNX : Hid (∀ w', Nx w wr w' zz Q3 (rd (A'.ms.getD j noM) (t : Int)) → Nz Bw w V w' x P2 A2) := fun w' nx => by
                rw [hA2]
                obtain ⟨P4, y1, y2, y3⟩ := hnz w' _ nx (hR3.rd _) (by unfold rd; split <;> exact hl3)
                exact ⟨P4, y1, s3.then y2 n3, n3.trans y3 s3.size⟩
              obtain ⟨E, hE⟩ : ∃ E, E = rcE (A'.ms.getD j noM) (t : Int) := ⟨_, rfl⟩
              obtain ⟨sR, hsR⟩ : ∃ sR, sR = rdS (A'.ms.getD j noM) (t : Int) := ⟨_, rfl⟩
              have hlive : S.dead = false → E = 0 ∧ sR = (pl S.las S.row).getD t noS := fun hd => by
                have hd3 : (A'.ms.getD j noM).dead = false := by rw [alk.dead]; exact hd
                have hl : t < (A'.ms.getD j noM).las.length := by rw [alk.las, ← HL.out]; exact htl
                refine ⟨by rw [hE]; exact rc_in hd3 hl, ?_⟩
                rw [hsR, rd_in hd3 hl, alk.now, hRS.live hd]
              rw [← hE, ← hsR] at hrd
              have HLV := hid hlive
              clear hE hsR hA2 hnz hR3 hl3 hRS how h3 s3 n3 hlive alk
              go_wp2_with fail
              refine hmem.mono ?_
              rintro e W2 ⟨rfl, rfl⟩
              go_wp2_with fail
              refine hrd.mono ?_
              rintro e W3 ⟨rfl, nx⟩
              have nz3 := HNX.out W3 nx
              have hrx3 : RX w W3 y m cap X F B := by
                obtain ⟨_, _, q2, _⟩ := nz3
                exact HRX.out.sp q2 HDJ.out.symm
              obtain ⟨Z3, _, ⟨gs3, cg3, wv3, _, hri, _⟩, _⟩ := hrx3.atX j hjB
              rw [← HS.out, ← HZ.out] at hri
              have cd := hri.c2
              have hnow := now_any hri t (by rw [← HL.out]; exact htl)
              have NZ3 := hid nz3
              clear nx hrd hmem HNX hrx3 hri nz3 KX
              cases hdd : S.dead with
              | true =>
                rw [hdd] at cd
                clear hdd hnow HLV
                go_wp2
                go_roundw
                case rel => exact ⟨t + 1, A2, by omega, by go_num, NZ3, hak⟩
                case measure => simp [intOf]; omega
              | false =>
                rw [hdd] at cd
                obtain ⟨rfl, hsE⟩ := HLV.out hdd
                rw [← hsE] at hnow
                clear hdd HLV hsE
                go_wp2_with fail
                refine hnow.mono ?_
                rintro e W4 ⟨rfl, rfl⟩
                go_wp2
                go_roundw
                case rel => exact ⟨t + 1, A2, by omega, by go_num, NZ3, hak⟩
                case measure => simp [intOf]; omega
            · obtain rfl : t = L := by omega
              go_wp2
              go_roundw
              case rel => exact ⟨j + 1, A', by omega, by go_num, HX, HA⟩
              case measure => simp [intOf]; omega
        · obtain rfl : j = N := by omega
          have KX := HX.out.below OL.bw HBW.out HKR.out
          go_wp2
          go_ret
          exact ⟨rfl, KX⟩
theorem walk (w : World) (a0 : Int) (a1 : Int) (a2 : Value) (l2 : List A6) (w0 : (Lit.int .i64 a0).wf = true) (w1 : (Lit.int .i64 a1).wf = true) (w2 : Acts6 w a2 l2) :
    Calls Try.prog 3 #[.int .i64 a0, .int .i64 a1, a2] w fun e w' => e = .returned (.bool true) ∧ Kp w w' := by
  exact walkN w a0 a1 a2 l2 w2

set_option maxRecDepth 100000 in
theorem lifted (os : Os) (started : os.Started) (H : Type) (enc : TypeId × Value → H) :
    ReturnsInHanded {} Try.checked os 3 .any (Rows.bayPlaysSpec.pre6 enc Try.prog Try.f3 Rows.bayPlaysRow.domain false) (Rows.bayPlaysSpec.post enc Try.prog Try.f3 false true false false) := by
  refine returnsInHanded_of_change (C := Try.checked) own started (by kernel_rfl) Try.func3
    (ChangeSpec.witness6 (enc := enc) (C := Try.checked) false ⟨#[], #[.int .i64 0, .int .i64 0, .slice none 0 0], []⟩ 8 (by kernel_rfl) (by kernel_rfl) (by kernel_rfl) (by kernel_rfl)) ?_
  intro W base args ds gs before hval0 hW hcnd _
  have hval : ∀ (j : Nat) t v, Try.f3.params[j]? = some t → args[j]? = some v → Value.okWide Try.prog W .any base t v := hval0
  have hW' := hW
  have hlt := hW.lt
  obtain ⟨p, q, hA0, hV, rfl, hfz, hnd⟩ := hW
  have hA : DataW.TrodAll enc Try.prog W 0 (fun _ => true) true Try.f3.params.toList args.toList ds p := hA0
  have hAk := hA
  rw [Try.params3] at hA hval
  obtain ⟨v0, vs0, d0, ds0, p0, q0, hargs, rfl, rfl, h0, r0⟩ := trodAll_cons hA
  obtain ⟨v1, vs1, d1, ds1, p1, q1, rfl, rfl, rfl, h1, r1⟩ := trodAll_cons r0
  obtain ⟨v2, vs2, d2, ds2, p2, q2, rfl, rfl, rfl, h2, r2⟩ := trodAll_cons r1
  obtain ⟨rfl, rfl, rfl⟩ := trodAll_nil r2
  obtain rfl : args = #[v0, v1, v2] := by cases args; simp_all
  obtain ⟨rfl, rfl⟩ := trodVars_none hV
  obtain ⟨a0, rfl, rfl, rfl, w0⟩ := open_int Try.underlying3 (hval 0 3 v0 rfl rfl) h0
  obtain ⟨a1, rfl, rfl, rfl, w1⟩ := open_int Try.underlying3 (hval 1 3 v1 rfl rfl) h1
  obtain ⟨l2, w2⟩ := open_as6 (hval 2 22 v2 rfl rfl) h2
  clear hA0 hval0
  simp only [List.append_nil] at hW' hAk hlt
  refine (walk W a0 a1 v2 l2 w0 w1 w2).mono fun e W' ⟨he, hg⟩ => ?_
  subst he
  exact ⟨_, rfl, post_kp (pv := []) hW' (fun _ _ _ => (trodAll_cons_mk (shut_bool Try.underlying4 _) trodAll_mk0)) (fun sp hsp => trodAll_stays laidOut (by rw [Try.params3]; exact of_decide_eq_true (by kernel_rfl)) hAk (fun x hx => Below.same hg (hlt x hx)) hsp) (fun _ _ => rfl) (by simp) hg⟩

theorem over : Rows.bayPlaysRow.holds Try.pinned (OpenSpec.ofChange Rows.bayPlaysSpec) :=
  OpenClaim.holds_of_wide 3 Try.f3 rfl rfl rfl rfl rfl rfl rfl ⟨rfl, rfl, rfl, rfl, rfl⟩ rfl rfl rfl rfl rfl (by kernel_rfl) Try.func3 (by kernel_rfl)
    (of_decide_eq_true (by kernel_rfl)) (by unfold Func.isWrapper; first | (rw [if_pos (by decide +kernel)]; kernel_rfl) | (rw [if_neg (by decide +kernel)]; exact ⟨rfl, rfl⟩))
    (fun os started H enc _ => lifted os started H enc)

end Go.Proofs.Ytmklkdopmemfaaa.bayPlays
namespace Go.Proofs.Ytmklkdopmemfaaa
theorem bayPlays_holds : Rows.BayPlaysSaid := bayPlays.over
end Go.Proofs.Ytmklkdopmemfaaa
