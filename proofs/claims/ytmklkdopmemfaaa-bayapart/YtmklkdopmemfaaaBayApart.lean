/-
  BayApart (P11.2): what is written to one member changes no other one. No condition.
-/
import Derived.Test.YtmklkdopmemfaaaRows
import Derived.Test.YtmklkdopmemfaaaBufArgs
import Derived.Test.YtmklkdopmemfaaaByNil
import Derived.WalkKit
import Derived.ProofKit
import Derived.OpenShut
import Derived.ShutString
import Derived.Deep.QuietTactic
import Derived.BigQuiet
import Derived.Deep.RegionWith
import Derived.Deep.RegionHeld3
import Derived.Deep.DeepCutAuto
import Derived.Deep.CutBlock
namespace Go.Proofs.Ytmklkdopmemfaaa.bayApart
open Go.ChangeShapes Go.WideShapes Go.ChangeAt Go.RowKit
open Go.ChangeMaps (open_string shut_string)
open Go.Proofs.Ytmklkdopmemfaaa Plain
set_option linter.unusedVariables false

theorem own : ownKnob Try.prog.godebug = none := by kernel_rfl
theorem laidOut : laidOutB Try.prog = true := by kernel_rfl
/-- a bay whose i-th member is as it was. -/
structure Az (N : Nat) (i : Int) (M : MS) (k : Nat) (B : BS) : Prop where
  pw : B.pw = none
  n : B.ms.length = N
  m : bm B i = M
  g : B.g ≤ k
theorem az_fd {N : Nat} {i : Int} {M : MS} {k : Nat} {B : BS} (h : Az N i M k B) (h0 : 0 ≤ i) (h1 : i < N) : fdE B i = 0 := by
  unfold fdE
  rw [h.n, if_pos ⟨h0, h1⟩]
theorem az_st {N : Nat} {i : Int} {M : MS} {k : Nat} {B : BS} (h : Az N i M k B) (h0 : 0 ≤ i) (h1 : i < N) : stE B i = 0 := by
  unfold stE
  rw [if_pos (az_fd h h0 h1), if_neg (by rw [h.pw]; simp)]
theorem bm_put {B : BS} {a i : Int} (S : MS) (h : a.toNat ≠ i.toNat) : bm (put B a S) i = bm B i := by
  unfold bm put
  simp only
  rw [List.getD_eq_getElem?_getD, List.getElem?_set_ne h, ← List.getD_eq_getElem?_getD]
theorem az_op {N : Nat} {i : Int} {M : MS} {k : Nat} {B : BS} (h : Az N i M k B) (h0 : 0 ≤ i) {a : Int} (ha : a ≠ i) (f : MS → MS) : Az N i M (k + 1) (opS B a f) := by
  obtain ⟨l1, l2⟩ := opS_len B a f
  have hs : bm (stS B a) i = bm B i := by unfold bm; rw [(stS_ms B a).1]
  have hp : (stS B a).pw = none := by
    unfold stS
    split
    · show B.pw.map _ = none
      rw [h.pw]
      rfl
    · exact h.pw
  refine ⟨?_, l1.trans h.n, ?_, by rw [l2]; exact Nat.succ_le_succ h.g⟩
  · unfold opS
    split
    · exact hp
    · exact hp
  · unfold opS
    split
    · rename_i he
      have := (bm_mem (stE_ok he).1).1
      rw [bm_put _ (by omega), hs, h.m]
    · rw [hs, h.m]
def m6 (s : ByteArray) : MS := ⟨[z64, z64, z64, s, z64, z64], [z64, z64, z64, z64, z64, z64], [(3, s)], false, up (fun _ => 0) 1⟩
theorem az_new (a : Int) {i : Int} (s : ByteArray) (hs : s.size = 64) (h0 : 0 ≤ i) (h1 : i < ((nwB a 6).ms.length : Int)) : opE (nwB a 6) i (fun S => wrE S 3 s) = 0 ∧ Az (nwB a 6).ms.length i (m6 s) 1 (opS (nwB a 6) i (fun S => wr S 3 s)) := by
  have hf : fdE (nwB a 6) i = 0 := by unfold fdE; rw [if_pos ⟨h0, h1⟩]
  obtain ⟨e1, e2⟩ := st_yes hf (by show none ≠ some 0; simp)
  have hb : bm (nwB a 6) i = nw 6 := (List.mem_replicate.1 (bm_mem hf).2.2.2).2
  have hw : wrE (nw 6) 3 s = 0 := by
    unfold wrE
    rw [if_pos (show rcE (nw 6) 3 = 0 from rfl), if_pos hs]
  have hw2 : wr (nw 6) 3 s = m6 s := by
    unfold wr
    rw [if_pos hw]
    rfl
  obtain ⟨l1, l2⟩ := opS_len (nwB a 6) i (fun S => wr S 3 s)
  refine ⟨?_, ⟨?_, l1, ?_, by rw [l2]; exact Nat.le_refl _⟩⟩
  · unfold opE
    rw [if_pos e1, hb]
    exact hw
  · unfold opS
    rw [if_pos e1, e2]
    rfl
  · unfold opS
    rw [if_pos e1, hb]
    show bm (put (stS (nwB a 6) i) i (wr (nw 6) 3 s)) i = m6 s
    rw [hw2]
    have hl := (bm_mem hf).2.2.1
    unfold bm put
    simp only
    rw [(stS_ms _ _).1]
    exact getD_set_eq hl _ _
theorem m6_rd (s : ByteArray) : rcE (m6 s) 3 = 0 ∧ rdS (m6 s) 3 = s ∧ (rd (m6 s) 3).row.length = 1 := ⟨rfl, rfl, rfl⟩
theorem az_end {N : Nat} {i : Int} {s : ByteArray} {k : Nat} {B : BS} (h : Az N i (m6 s) k B) (h0 : 0 ≤ i) (h1 : i < N) : rdT B i 3 = s ∧ rdE B i 3 = 0 ∧ fdE (rdB B i 3) i = 0 ∧ (bm (rdB B i 3) i).row.length = 1 := by
  have e1 := az_st h h0 h1
  have hf := az_fd h h0 h1
  have hl := (bm_mem hf).2.2.1
  unfold rdT rdE rdB
  rw [if_pos e1, if_pos e1, if_pos e1, h.m]
  refine ⟨(m6_rd s).2.1, (m6_rd s).1, ?_, ?_⟩
  · unfold fdE put
    simp only
    rw [List.length_set, h.n, if_pos ⟨h0, h1⟩]
  · unfold bm put
    simp only
    rw [getD_set_eq hl]
    exact (m6_rd s).2.2
/-- a member itself, as it lies. -/
theorem bw_own {w0 w : World} {b : Nat} {T : List Nat} {B : BS} (h : Bw w0 w b T B) {i : Int} (hi : fdE B i = 0) : ∃ x P, (∀ t, t ∈ P → w0.heap.size ≤ t) ∧ Ow w0 w x P (bm B i) ∧ Calls Try.prog 12 #[.pointer (some ⟨b, 0, none⟩), .int .i64 i] w fun e w' => e = .returned (.pointer (some ⟨x, 0, none⟩)) ∧ w' = w := by
  obtain ⟨m, X, F, rfl, h1⟩ := h
  obtain ⟨P, p1, p2, _⟩ := h1.at hi
  have hm := member_any h1 i
  unfold ptr at hm
  rw [if_pos hi] at hm
  exact ⟨_, P, p2.new, p2, hm⟩
set_option maxRecDepth 100000 in
set_option maxHeartbeats 4000000 in
theorem walkN (w : World) (a : Int) (l1 : List A6) (a1 : Value) (i1 : Acts6 w a1 l1) (ii : Int) :
    Calls Try.prog 5 #[.int .i64 a, a1, .int .i64 ii] w fun e w' => e = .returned (.bool true) ∧ Kp w w' := by
  obtain ⟨q1, c1, rfl, _⟩ := i1.h
  obtain ⟨n1, hn1⟩ : ∃ n1, n1 = l1.length := ⟨_, rfl⟩
  have z1 : n1 ≤ c1 ∧ c1 ≤ 9223372036854775807 := by obtain ⟨a, cap, e, h1, h2, _⟩ := i1.h; simp only [Value.slice.injEq] at e; omega
  obtain ⟨z1, z2⟩ := z1
  rw [← hn1] at i1 ⊢
  have N1 := hid hn1
  have I1 := hid i1
  clear i1 hn1
  have hmin := @imin Try.prog
  have hmax := @imax Try.prog
  obtain ⟨m1, e1⟩ : ∃ m : Nat, min (n1 : Int) 40 = (m : Int) := ⟨min n1 40, by omega⟩
  have hm1 : m1 ≤ n1 := by omega
  have hm3 : m1 ≤ 40 := by omega
  have hMS := sector_any 109 (by omega) false
  have hMZ := hid (scS_size 109)
  obtain ⟨mS, hmS⟩ : ∃ mS, mS = scS 109 false := ⟨_, rfl⟩
  rw [← hmS] at hMS hMZ
  have HMS := hid hMS
  clear hmS hMS
  obtain ⟨N, hN⟩ : ∃ N, N = (nwB a 6).ms.length := ⟨_, rfl⟩
  have hN1 : 1 ≤ N := by rw [hN]; exact (Gd.new a 6).n1
  have hN2 : N ≤ 32 := by rw [hN]; exact (Gd.new a 6).n2
  have HN := hid hN
  clear hN
  obtain ⟨MI, hMI⟩ : ∃ MI, max 0 ii = MI := ⟨_, rfl⟩
  obtain ⟨I, hI⟩ : ∃ I, MI % (N : Int) = I := ⟨_, rfl⟩
  have hI2 : MI.tmod (N : Int) = I := by rw [Int.tmod_eq_emod_of_nonneg (by omega)]; exact hI
  have hI0 : 0 ≤ I ∧ I < N := by
    rw [← hI]
    exact ⟨Int.emod_nonneg _ (by omega), Int.emod_lt_of_pos _ (by omega)⟩
  have HI0 := hid hI0
  have hNz : ((N : Int) == 0) = false := beq_eq_false_iff_ne.2 (by omega)
  clear hI0
  go_enter Try.func5, Try.ntmps5
  go_wp2_with fail
  refine (bw_new a 6 w w (Kp.refl w)).mono ?_
  rintro e u1 ⟨b, T1, rfl, o1, k1, _⟩
  go_wp2_with fail
  refine (wakes_bay u1).mono ?_
  rintro e u2 ⟨rfl, k2⟩
  have o2 := OL.bw.sp o1 (k2.sp []) (fun _ _ h => by cases h)
  have K2 := k1.trans k2
  clear o1 k1 k2
  have hsz := bw_size o2
  rw [← HN.out] at hsz
  go_wp2_with fail
  refine hsz.mono ?_
  rintro e u3 ⟨rfl, rfl⟩
  go_wp2_with fail
  refine hsz.mono ?_
  rintro e u4 ⟨rfl, rfl⟩
  clear hsz
  go_wp2_with fail
  refine (HMS.out u4).mono ?_
  rintro e u5 ⟨rfl, k5⟩
  have o5 := OL.bw.sp o2 (k5.sp []) (fun _ _ h => by cases h)
  have K5 := K2.trans k5
  have hz := az_new a (i := I) mS hMZ.out HI0.out.1 (by rw [← HN.out]; exact HI0.out.2)
  rw [← HN.out] at hz
  have hwr := bw_write o5 K5 I 3 mS (by show 0 < 1000000; omega)
  obtain ⟨B0, hB0⟩ : ∃ B0, B0 = opS (nwB a 6) I (fun S => wr S 3 mS) := ⟨_, rfl⟩
  rw [hz.1, ← hB0] at hwr
  rw [← hB0] at hz
  have HCZ0 := hid hz.2
  have H5 := hid o5
  have HK5 := hid K5
  clear o2 K2 k5 hz hB0 o5 K5
  go_wp2_with fail
  refine hwr.mono ?_
  rintro e W ⟨rfl, nW⟩
  have HKW := hid (nW.below OL.bw H5.out HK5.out)
  obtain ⟨T, oW, _, _⟩ := nW
  have HB0 := hid oW
  clear oW hwr H5 HK5
  go_wp2_with fail
  go_loopw [37] (fun i wr => ∃ (k : Nat) (B : BS), k ≤ m1 ∧ i = .int .i64 k ∧ Hid (Nz Bw w W wr b T B) ∧ Hid (Az N I (m6 mS) (k + 1) B)) (fun i _ => m1 - (intOf i).toNat)
  case atStart => exact ⟨0, B0, by omega, by go_num, Nz.refl HB0.out, HCZ0⟩
  case round =>
    obtain ⟨k, B, hk, rfl, HX, HC⟩ := hrel
    by_cases hlt : k < m1
    · skip
      have hkn : k < n1 := by omega
      have hks : k < l1.length := by rw [← N1.out]; exact hkn
      have KR := HX.out.below OL.bw HB0.out HKW.out
      obtain ⟨qa, qc, eq, z1_, z2_, hq⟩ := (I1.out.kp KR).take m1 (by rw [← N1.out]; exact hm1)
      obtain ⟨g, off, hqq, hrg⟩ := hq (by omega)
      simp only [Value.slice.injEq] at eq
      obtain rfl : q1 = some ⟨g, off, none⟩ := eq.1.trans hqq
      obtain ⟨f0, f1, f2, f3, f4, f5⟩ := a6_cells (hrg k hlt)
      have fok := (I1.out.kp KR).ok k hks
      obtain ⟨a_, ha_⟩ : ∃ a_, a_ = l1.getD k noA6 := ⟨_, rfl⟩
      rw [← ha_] at f0 f1 f2 f3 f4 f5 fok
      obtain ⟨op_, i_, k_, d_, o_, kv_, KK_⟩ := a_
      simp only at f0 f1 f2 f3 f4 f5
      have hd8 : d_ < 256 := fok.d
      obtain ⟨va, vc, hva, z3_⟩ := fok.k.h
      simp only at hva
      subst hva
      obtain ⟨vn, hvn⟩ : ∃ vn, vn = KK_.length := ⟨_, rfl⟩
      rw [← hvn] at f5
      clear ha_ eq hqq hrg fok z1_ z2_ hq z3_ hvn
      have hSX := sector_any d_ hd8 false
      obtain ⟨sX, hsX⟩ : ∃ sX, sX = scS d_ false := ⟨_, rfl⟩
      rw [← hsX] at hSX
      have HSX := hid hSX
      clear hsX hSX
      obtain ⟨T1, hB1, sp1, nw1⟩ := HX.out
      obtain ⟨K, hK⟩ : ∃ K, K = wr.heap.size := ⟨_, rfl⟩
      obtain ⟨Wb, hWb⟩ : ∃ Wb, Wb = wr.alloc (.cells #[.int .i64 op_, .int .i64 i_, .int .i64 k_, .int .u8 (d_ : Int), .bool o_, .slice va vn vc] 31) := ⟨_, rfl⟩
      have kb : Kp wr Wb := by rw [hWb]; exact (Kp.refl wr).alloc _
      have C0 : Wb.cell? ⟨K, 0, none⟩ = some (.int .i64 op_) := by rw [hWb, World.cell?_alloc_at _ _ _ _ hK]; rfl
      have C1 : Wb.cell? ⟨K, 1, none⟩ = some (.int .i64 i_) := by rw [hWb, World.cell?_alloc_at _ _ _ _ hK]; rfl
      have HC2 : Hid (Wb.cell? ⟨K, 2, none⟩ = some (.int .i64 k_)) := by rw [hWb, World.cell?_alloc_at _ _ _ _ hK]; exact rfl
      have HC3 : Hid (Wb.cell? ⟨K, 3, none⟩ = some (.int .u8 (d_ : Int))) := by rw [hWb, World.cell?_alloc_at _ _ _ _ hK]; exact rfl
      have hKT : Hid (K ∉ T1) := fun hm => by have := OL.bw.low hB1 K hm; omega
      have HB1 : Hid (Bw w Wb b T1 B) := OL.bw.sp hB1 (kb.sp []) (fun _ _ h => by cases h)
      have HK1 := hid (KR.trans kb)
      have SP1 := hid (sp1.trans (kb.sp T))
      have NW1 := hid nw1
      have HWb := hid hWb
      have HK := hid hK
      have hg6 : Hid (B.g < 1000000) := by have := HC.out.g; show _ < _; omega
      have NB0 : Hid (Nz Bw w W Wb b T B) := ⟨T1, HB1.out, SP1.out, NW1.out⟩
      clear hWb hK kb sp1 nw1 hB1 HX KR hd8
      by_cases hII : i_ = I
      · have CZ0 : Hid (Az N I (m6 mS) (k + 1 + 1) B) := ⟨HC.out.pw, HC.out.n, HC.out.m, Nat.le_succ_of_le HC.out.g⟩
        have hII2 : (i_ == I) = true := by rw [hII]; exact beq_self_eq_true I
        clear hII
        go_wp2_with fail
        rw [← HWb.out]
        go_roundw
        case rel => exact ⟨k + 1, B, by omega, by go_num, NB0, CZ0⟩
        case measure => simp [intOf]; omega
      · have hII2 : (i_ == I) = false := beq_eq_false_iff_ne.2 hII
        have HNE := hid hII
        clear hII
        obtain ⟨q, hq⟩ : ∃ q, bits .and .i64 op_ 1 = q := ⟨_, rfl⟩
        have hqd : q = 0 ∨ (q == 0) = false := by
          by_cases h : q = 0
          · exact .inl h
          · exact .inr (beq_eq_false_iff_ne.2 h)
        have z9 := hqd
        rcases hqd with rfl | hqd
        · clear z9
          go_wp2_with fail
          rw [← HWb.out, ← HK.out]
          have hop := az_op HC.out HI0.out.1 HNE.out (fun S => Go.Proofs.Ytmklkdopmemfaaa.wr S k_ sX)
          obtain ⟨B', hB'⟩ : ∃ B', B' = opS B i_ (fun S => Go.Proofs.Ytmklkdopmemfaaa.wr S k_ sX) := ⟨_, rfl⟩
          rw [← hB'] at hop
          have CZ' := hid hop
          obtain ⟨E, hE⟩ : ∃ E, E = opE B i_ (fun S => wrE S k_ sX) := ⟨_, rfl⟩
          have c14 : ∀ V, Kp Wb V → Calls Try.prog 16 #[.pointer (some ⟨b, 0, none⟩), .int .i64 i_, .int .i64 k_, .string sX] V fun e V' => e = .returned (.int .i64 E) ∧ Nz Bw w Wb V' b T1 B' := fun V k => by
            have := bw_write (OL.bw.sp HB1.out (k.sp []) (fun _ _ h => by cases h)) (HK1.out.trans k) i_ k_ sX hg6.out
            rw [← hE, ← hB'] at this
            exact this.mono fun e V' ⟨he, T2, q1, q2, q3⟩ => ⟨he, T2, q1, (k.sp _).trans q2, fun t ht => (q3 t ht).imp id (fun h => Nat.le_trans k.size h)⟩
          have c15 : ∀ V, Kp Wb V → Calls Try.prog 17 #[.int .u8 (d_ : Int), .bool false] V fun e V' => e = .returned (.string sX) ∧ Kp Wb V' := fun V k => (HSX.out V).mono fun e V' ⟨he, k'⟩ => ⟨he, k.trans k'⟩
          have hS1 : ∀ V, Kp Wb V → V.cell? ⟨K, 1, none⟩ = some (.int .i64 i_) ∧ V.cell? ⟨K, 2, none⟩ = some (.int .i64 k_) ∧ V.cell? ⟨K, 3, none⟩ = some (.int .u8 (d_ : Int)) := fun V k => ⟨k.held C1, k.held HC2.out, k.held HC3.out⟩
          have hS2 : ∀ V, Nz Bw w Wb V b T1 B' → V.cell? ⟨K, 1, none⟩ = some (.int .i64 i_) ∧ V.cell? ⟨K, 2, none⟩ = some (.int .i64 k_) ∧ V.cell? ⟨K, 3, none⟩ = some (.int .u8 (d_ : Int)) := fun V ⟨_, _, q2, _⟩ => ⟨q2.held C1 hKT.out, q2.held HC2.out hKT.out, q2.held HC3.out hKT.out⟩
          have hr0 : Kp Wb Wb.drew := (Kp.refl _).drew
          clear hop hB' hE
          go_wp2_with fail
          go_region_held3 (fun V => V.cell? ⟨K, 1, none⟩ = some (.int .i64 i_) ∧ V.cell? ⟨K, 2, none⟩ = some (.int .i64 k_) ∧ V.cell? ⟨K, 3, none⟩ = some (.int .u8 (d_ : Int))) (first | exact hS1 _ (by assumption) | exact hS2 _ (by assumption)) (first
            | (go_at_call 17; refine (c15 _ (by assumption)).mono ?_; rintro e wa ⟨rfl, ha⟩)
            | (go_at_call 16; refine (c14 _ (by assumption)).mono ?_; rintro e wb ⟨rfl, hb'⟩))
          all_goals (
            clear c15 c14 hS1 hS2 hr0 ha
            have NB : Hid (Nz Bw w W wb b T B') := by
              obtain ⟨T2, q1, q2, q3⟩ := hb'
              exact ⟨T2, q1, SP1.out.then q2 NW1.out, NW1.out.trans q3 SP1.out.size⟩
            clear hb'
            go_wp2
            go_roundw
            case rel => exact ⟨k + 1, B', by omega, by go_num, NB, CZ'⟩
            case measure => simp [intOf]; omega)
        · clear z9
          go_wp2_with fail
          rw [← HWb.out, ← HK.out]
          have hop := az_op HC.out HI0.out.1 HNE.out (fl)
          obtain ⟨B', hB'⟩ : ∃ B', B' = opS B i_ (fl) := ⟨_, rfl⟩
          rw [← hB'] at hop
          have CZ' := hid hop
          obtain ⟨E, hE⟩ : ∃ E, E = opE B i_ (flE) := ⟨_, rfl⟩
          have c14 := bw_flush HB1.out HK1.out i_ hg6.out
          rw [← hE, ← hB'] at c14
          clear hop hB' hE
          go_wp2_with fail
          refine c14.mono ?_
          rintro e wb ⟨rfl, hb'⟩
          clear c14
          have NB : Hid (Nz Bw w W wb b T B') := by
            obtain ⟨T2, q1, q2, q3⟩ := hb'
            exact ⟨T2, q1, SP1.out.then q2 NW1.out, NW1.out.trans q3 SP1.out.size⟩
          clear hb'
          go_wp2
          go_roundw
          case rel => exact ⟨k + 1, B', by omega, by go_num, NB, CZ'⟩
          case measure => simp [intOf]; omega
    · obtain rfl : k = m1 := by omega
      have KR := HX.out.below OL.bw HB0.out HKW.out
      obtain ⟨T1, h1, _, _⟩ := HX.out
      obtain ⟨d1, d2, d3, d4⟩ := az_end HC.out HI0.out.1 HI0.out.2
      have hrd := bw_read h1 KR I 3
      rw [d1, d2] at hrd
      have H1 := hid h1
      have HKR := hid KR
      obtain ⟨B2, hB2⟩ : ∃ B2, B2 = rdB B I 3 := ⟨_, rfl⟩
      rw [← hB2] at d3 d4 hrd
      have D3 := hid d3
      have D4 := hid d4
      clear h1 d1 d2 d3 d4 hB2 HC HX KR
      go_wp2_with fail
      refine hrd.mono ?_
      rintro e v1 ⟨rfl, n1⟩
      have K1 := hid (n1.below OL.bw H1.out HKR.out)
      obtain ⟨T2, h2, _, _⟩ := n1
      have H2 := hid h2
      clear hrd h2
      go_wp2_with fail
      refine (HMS.out v1).mono ?_
      rintro e v2 ⟨rfl, k2⟩
      have K2 : Kp w v2 := K1.out.trans k2
      have h2 := OL.bw.sp H2.out (k2.sp []) (fun _ _ h => by cases h)
      obtain ⟨x, P, p1, p2, p3⟩ := bw_own h2 D3.out
      have hwt := ow_waiting p2 K2 (by rw [D4.out]; omega)
      rw [D4.out] at hwt
      have HP := hid p2
      have HK2 := hid K2
      clear k2 K2 h2 p1 p2
      go_wp2_with fail
      refine p3.mono ?_
      rintro e v3 ⟨rfl, rfl⟩
      go_wp2_with fail
      refine hwt.mono ?_
      rintro e v4 ⟨gg, rfl, _, nx, _⟩
      have K4 := nx.kp HP.out HK2.out
      clear nx hwt p3
      go_wp2
      go_ret
      exact ⟨rfl, K4⟩
theorem walk (w : World) (a0 : Int) (a1 : Value) (l1 : List A6) (a2 : Int) (w0 : (Lit.int .i64 a0).wf = true) (w1 : Acts6 w a1 l1) (w2 : (Lit.int .i64 a2).wf = true) :
    Calls Try.prog 5 #[.int .i64 a0, a1, .int .i64 a2] w fun e w' => e = .returned (.bool true) ∧ Kp w w' := by
  exact walkN w a0 l1 a1 w1 a2

set_option maxRecDepth 100000 in
theorem lifted (os : Os) (started : os.Started) (H : Type) (enc : TypeId × Value → H) :
    ReturnsInHanded {} Try.checked os 5 .any (Rows.bayApartSpec.pre6 enc Try.prog Try.f5 Rows.bayApartRow.domain false) (Rows.bayApartSpec.post enc Try.prog Try.f5 false true false false) := by
  refine returnsInHanded_of_change (C := Try.checked) own started (by kernel_rfl) Try.func5
    (ChangeSpec.witness6 (enc := enc) (C := Try.checked) false ⟨#[], #[.int .i64 0, .slice none 0 0, .int .i64 0], []⟩ 8 (by kernel_rfl) (by kernel_rfl) (by kernel_rfl) (by kernel_rfl)) ?_
  intro W base args ds gs before hval0 hW hcnd _
  have hval : ∀ (j : Nat) t v, Try.f5.params[j]? = some t → args[j]? = some v → Value.okWide Try.prog W .any base t v := hval0
  have hW' := hW
  have hlt := hW.lt
  obtain ⟨p, q, hA0, hV, rfl, hfz, hnd⟩ := hW
  have hA : DataW.TrodAll enc Try.prog W 0 (fun _ => true) true Try.f5.params.toList args.toList ds p := hA0
  have hAk := hA
  rw [Try.params5] at hA hval
  obtain ⟨v0, vs0, d0, ds0, p0, q0, hargs, rfl, rfl, h0, r0⟩ := trodAll_cons hA
  obtain ⟨v1, vs1, d1, ds1, p1, q1, rfl, rfl, rfl, h1, r1⟩ := trodAll_cons r0
  obtain ⟨v2, vs2, d2, ds2, p2, q2, rfl, rfl, rfl, h2, r2⟩ := trodAll_cons r1
  obtain ⟨rfl, rfl, rfl⟩ := trodAll_nil r2
  obtain rfl : args = #[v0, v1, v2] := by cases args; simp_all
  obtain ⟨rfl, rfl⟩ := trodVars_none hV
  obtain ⟨a0, rfl, rfl, rfl, w0⟩ := open_int Try.underlying3 (hval 0 3 v0 rfl rfl) h0
  obtain ⟨l1, w1⟩ := open_as6 (hval 1 22 v1 rfl rfl) h1
  obtain ⟨a2, rfl, rfl, rfl, w2⟩ := open_int Try.underlying3 (hval 2 3 v2 rfl rfl) h2
  clear hA0 hval0
  simp only [List.append_nil] at hW' hAk hlt
  refine (walk W a0 v1 l1 a2 w0 w1 w2).mono fun e W' ⟨he, hg⟩ => ?_
  subst he
  exact ⟨_, rfl, post_kp (pv := []) hW' (fun _ _ _ => (trodAll_cons_mk (shut_bool Try.underlying4 _) trodAll_mk0)) (fun sp hsp => trodAll_stays laidOut (by rw [Try.params5]; exact of_decide_eq_true (by kernel_rfl)) hAk (fun x hx => Below.same hg (hlt x hx)) hsp) (fun _ _ => rfl) (by simp) hg⟩

theorem over : Rows.bayApartRow.holds Try.pinned (OpenSpec.ofChange Rows.bayApartSpec) :=
  OpenClaim.holds_of_wide 5 Try.f5 rfl rfl rfl rfl rfl rfl rfl ⟨rfl, rfl, rfl, rfl, rfl⟩ rfl rfl rfl rfl rfl (by kernel_rfl) Try.func5 (by kernel_rfl)
    (of_decide_eq_true (by kernel_rfl)) (by unfold Func.isWrapper; first | (rw [if_pos (by decide +kernel)]; kernel_rfl) | (rw [if_neg (by decide +kernel)]; exact ⟨rfl, rfl⟩))
    (fun os started H enc _ => lifted os started H enc)

end Go.Proofs.Ytmklkdopmemfaaa.bayApart
namespace Go.Proofs.Ytmklkdopmemfaaa
theorem bayApart_holds : Rows.BayApartSaid := bayApart.over
end Go.Proofs.Ytmklkdopmemfaaa
