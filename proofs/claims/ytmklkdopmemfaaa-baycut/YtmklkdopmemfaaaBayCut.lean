/-
  BayCut (P11.2, P11.3): with the power failing behind n steps just the first n of any steps are made; behind a crash all are again. No condition.
-/
import Derived.Test.YtmklkdopmemfaaaRows
import Derived.Test.YtmklkdopmemfaaaBufArgs
import Derived.Test.YtmklkdopmemfaaaByNil
import Derived.WalkKit
import Derived.ProofKit
import Derived.OpenShut
import Derived.ShutString
import Derived.Deep.QuietTactic
import Derived.BigQuiet
import Derived.Deep.RegionWith
import Derived.Deep.RegionHeld3
import Derived.Deep.DeepCutAuto
import Derived.Deep.CutBlock
namespace Go.Proofs.Ytmklkdopmemfaaa.bayCut
open Go.ChangeShapes Go.WideShapes Go.ChangeAt Go.RowKit
open Go.ChangeMaps (open_string shut_string)
open Go.Proofs.Ytmklkdopmemfaaa Plain
set_option linter.unusedVariables false

theorem own : ownKnob Try.prog.godebug = none := by kernel_rfl
theorem laidOut : laidOutB Try.prog = true := by kernel_rfl
/-- a bay whose power fails behind n steps, j of them made, behind k acts. -/
structure Cz (n : Int) (j k : Nat) (B : BS) : Prop where
  pw : B.pw = some (n.toNat - j)
  md : B.md = j
  l4 : B.ms.length = 4
  al : ∀ S ∈ B.ms, S.dead = false ∧ S.las.length = 8
  g : B.g ≤ k
theorem Cz.fd {n : Int} {j k : Nat} {B : BS} (h : Cz n j k B) {i : Int} (h0 : 0 ≤ i) (h4 : i < 4) : fdE B i = 0 := by
  unfold fdE
  rw [h.l4, if_pos ⟨h0, by omega⟩]
theorem Cz.yes {n : Int} {j k : Nat} {B : BS} (h : Cz n j k B) (hj : (j : Int) < n) : B.pw ≠ some 0 := by
  rw [h.pw]
  intro e
  simp only [Option.some.injEq] at e
  omega
theorem Cz.no {n : Int} {j k : Nat} {B : BS} (h : Cz n j k B) (hj : ¬ (j : Int) < n) : B.pw = some 0 := by
  rw [h.pw, show n.toNat - j = 0 by omega]
theorem Cz.alive {n : Int} {j k : Nat} {B : BS} (h : Cz n j k B) {i : Int} (h0 : 0 ≤ i) (h4 : i < 4) : (bm B i).dead = false ∧ (bm B i).las.length = 8 := h.al _ (bm_mem (h.fd h0 h4)).2.2.2
theorem Cz.put {n : Int} {j k : Nat} {B : BS} (h : Cz n j k B) (i : Int) (S : MS) (hS : S.dead = false ∧ S.las.length = 8) : Cz n j k (put B i S) := by
  refine ⟨h.pw, h.md, by show (B.ms.set i.toNat S).length = 4; rw [List.length_set]; exact h.l4, fun R hR => ?_, h.g⟩
  rcases List.mem_or_eq_of_mem_set hR with h3 | rfl
  · exact h.al R h3
  · exact hS
theorem Cz.opY {n : Int} {j k : Nat} {B : BS} (h : Cz n j k B) {i : Int} (h0 : 0 ≤ i) (h4 : i < 4) (hj : (j : Int) < n) (e : MS → Int) (f : MS → MS) (he : ∀ S, S.dead = false ∧ S.las.length = 8 → e S = 0 ∧ (f S).dead = false ∧ (f S).las.length = 8) : opE B i e = 0 ∧ Cz n (j + 1) (k + 1) (opS B i f) := by
  obtain ⟨e1, e2⟩ := st_yes (h.fd h0 h4) (h.yes hj)
  have ha := he _ (h.alive h0 h4)
  unfold opE opS
  rw [if_pos e1, if_pos e1, e2]
  have c1 : Cz n (j + 1) (k + 1) ⟨B.pw.map (· - 1), B.md + 1, B.g + 1, B.ms⟩ := by
    refine ⟨?_, ?_, h.l4, h.al, Nat.succ_le_succ h.g⟩
    · show B.pw.map (· - 1) = _
      rw [h.pw]
      show some (n.toNat - j - 1) = _
      rw [Nat.sub_sub]
    · show B.md + 1 = j + 1
      rw [h.md]
  exact ⟨ha.1, c1.put i _ ha.2⟩
theorem Cz.opN {n : Int} {j k : Nat} {B : BS} (h : Cz n j k B) {i : Int} (h0 : 0 ≤ i) (h4 : i < 4) (hj : ¬ (j : Int) < n) (e : MS → Int) (f : MS → MS) : opE B i e = 21 ∧ Cz n j (k + 1) (opS B i f) := by
  obtain ⟨e1, e2⟩ := st_no (h.fd h0 h4) (h.no hj)
  unfold opE opS
  rw [if_neg (by rw [e1]; decide), if_neg (by rw [e1]; decide), e1, e2]
  exact ⟨rfl, h.pw, h.md, h.l4, h.al, Nat.succ_le_succ h.g⟩
theorem cz_wr {S : MS} (h : S.dead = false ∧ S.las.length = 8) {k : Int} (h0 : 0 ≤ k) (h8 : k < 8) (s : ByteArray) (hs : s.size = 64) : wrE S k s = 0 ∧ (wr S k s).dead = false ∧ (wr S k s).las.length = 8 := by
  obtain ⟨_, h2, h3⟩ := wr_row S k s
  refine ⟨?_, by rw [h2]; exact h.1, by rw [h3]; exact h.2⟩
  have hr : rcE S k = 0 := by
    unfold rcE
    rw [h.1, if_neg (by decide), h.2, if_pos ⟨h0, h8⟩]
  unfold wrE
  rw [if_pos hr, if_pos hs]
theorem cz_fl {S : MS} (h : S.dead = false ∧ S.las.length = 8) : flE S = 0 ∧ (fl S).dead = false ∧ (fl S).las.length = 8 := by
  unfold flE fl
  rw [h.1, if_neg (by decide), if_neg (by decide)]
  exact ⟨rfl, rfl, (pl_len _ _).trans h.2⟩
theorem cz_rd {S : MS} (h : S.dead = false ∧ S.las.length = 8) : rcE S 0 = 0 ∧ (rd S 0).dead = false ∧ (rd S 0).las.length = 8 := by
  have h1 : rcE S 0 = 0 := by
    unfold rcE
    rw [h.1, if_neg (by decide), h.2, if_pos (by decide)]
  unfold rd
  rw [if_pos h1]
  exact ⟨h1, h.1, h.2⟩
theorem Cz.rdY {n : Int} {j k : Nat} {B : BS} (h : Cz n j k B) {i : Int} (h0 : 0 ≤ i) (h4 : i < 4) (hj : (j : Int) < n) : rdE B i 0 = 0 ∧ Cz n j k (rdB B i 0) := by
  obtain ⟨e1, e2⟩ := st_yes (h.fd h0 h4) (h.yes hj)
  have ha := cz_rd (h.alive h0 h4)
  unfold rdE rdB
  rw [if_pos e1, if_pos e1]
  exact ⟨ha.1, h.put i _ ha.2⟩
theorem Cz.rdN {n : Int} {j k : Nat} {B : BS} (h : Cz n j k B) {i : Int} (h0 : 0 ≤ i) (h4 : i < 4) (hj : ¬ (j : Int) < n) : rdE B i 0 = 21 ∧ Cz n j k (rdB B i 0) := by
  obtain ⟨e1, e2⟩ := st_no (h.fd h0 h4) (h.no hj)
  unfold rdE rdB
  rw [if_neg (by rw [e1]; decide), if_neg (by rw [e1]; decide), e1]
  exact ⟨rfl, h⟩
theorem Cz.offY {n : Int} {j k : Nat} {B : BS} (h : Cz n j k B) (hj : (j : Int) < n) : ofB B = false := by
  unfold ofB
  exact decide_eq_false (h.yes hj)
theorem Cz.offN {n : Int} {j k : Nat} {B : BS} (h : Cz n j k B) (hj : ¬ (j : Int) < n) : ofB B = true := by
  unfold ofB
  exact decide_eq_true (h.no hj)
theorem cz_new (n : Int) : Cz n 0 0 (ctB (nwB 4 8) n) := by
  refine ⟨by show some n.toNat = some (n.toNat - 0); rw [Nat.sub_zero], rfl, rfl, fun S hS => ?_, Nat.le_refl _⟩
  have : S = nw 8 := (List.mem_replicate.1 hS).2
  rw [this]
  exact ⟨rfl, rfl⟩
/-- behind the crash. -/
theorem cz_end {n : Int} {j k : Nat} {B : BS} (h : Cz n j k B) : ofB (crB B (fun _ => [])) = false ∧ opE (crB B (fun _ => [])) 3 flE = 0 ∧ (opS (crB B (fun _ => [])) 3 fl).md = j + 1 := by
  have hl : (crB B (fun _ => [])).ms.length = 4 := (crM_len _ _ _ _).trans h.l4
  have hf : fdE (crB B (fun _ => [])) 3 = 0 := by unfold fdE; rw [hl, if_pos ⟨by omega, by omega⟩]
  have hp : (crB B (fun _ => [])).pw ≠ some 0 := by show none ≠ some 0; simp
  obtain ⟨e1, e2⟩ := st_yes hf hp
  have hm := (bm_mem hf).2.2.2
  have hd : (bm (crB B (fun _ => [])) 3).dead = false := by
    rcases crM_mem _ _ _ _ _ hm with h1 | ⟨R, h1, f, e⟩
    · exact (h.al _ h1).1
    · rw [e]; exact (h.al _ h1).1
  refine ⟨rfl, ?_, ?_⟩
  · unfold opE
    rw [if_pos e1]
    unfold flE
    rw [hd, if_neg (by decide)]
  · unfold opS
    rw [if_pos e1, e2]
    show B.md + 1 = j + 1
    rw [h.md]
set_option maxRecDepth 100000 in
set_option maxHeartbeats 4000000 in
theorem walkN (w : World) (n : Int) (hn : (Lit.int .i64 n).wf = true) (a1 : Value) (l1 : List A6) (i1 : Acts6 w a1 l1) :
    Calls Try.prog 4 #[.int .i64 n, a1] w fun e w' => e = .returned (.bool true) ∧ Kp w w' := by
  obtain ⟨q1, c1, rfl, _⟩ := i1.h
  obtain ⟨n1, hn1⟩ : ∃ n1, n1 = l1.length := ⟨_, rfl⟩
  have z1 : n1 ≤ c1 ∧ c1 ≤ 9223372036854775807 := by obtain ⟨a, cap, e, h1, h2, _⟩ := i1.h; simp only [Value.slice.injEq] at e; omega
  obtain ⟨z1, z2⟩ := z1
  rw [← hn1] at i1 ⊢
  have N1 := hid hn1
  have I1 := hid i1
  clear i1 hn1
  have hmin := @imin Try.prog
  have hmax := @imax Try.prog
  obtain ⟨m1, e1⟩ : ∃ m : Nat, min (n1 : Int) 80 = (m : Int) := ⟨min n1 80, by omega⟩
  have hm1 : m1 ≤ n1 := by omega
  have hm3 : m1 ≤ 80 := by omega
  go_enter Try.func4, Try.ntmps4
  go_wp2_with fail
  refine (bw_new 4 8 w w (Kp.refl w)).mono ?_
  rintro e u1 ⟨b, T1, rfl, o1, k1, _⟩
  go_wp2_with fail
  refine (bw_cut o1 n hn).mono ?_
  rintro e u2 ⟨rfl, n2⟩
  have K2 := n2.below OL.bw o1 k1
  obtain ⟨T, o2, _, _⟩ := n2
  clear o1 k1
  go_wp2_with fail
  refine (wakes_bay u2).mono ?_
  rintro e W ⟨rfl, kW⟩
  have HB0 : Hid (Bw w W b T (ctB (nwB 4 8) n)) := OL.bw.sp o2 (kW.sp []) (fun _ _ h => by cases h)
  have HKW := hid (K2.trans kW)
  have HCZ0 := hid (cz_new n)
  obtain ⟨B0, hB0⟩ : ∃ B0, B0 = ctB (nwB 4 8) n := ⟨_, rfl⟩
  rw [← hB0] at HB0 HCZ0
  clear o2 K2 kW hB0 hn
  go_wp2_with fail
  go_loopw [6, 26] (fun jv i wr => ∃ (k j : Nat) (B : BS), k ≤ m1 ∧ j ≤ k ∧ i = .int .i64 k ∧ jv = .int .i64 j ∧ Hid (Nz Bw w W wr b T B) ∧ Hid (Cz n j k B)) (fun _ i _ => m1 - (intOf i).toNat)
  case atStart => exact ⟨0, 0, B0, by omega, by omega, by go_num, by go_num, Nz.refl HB0.out, HCZ0⟩
  case round =>
    obtain ⟨k, j, B, hk, hjk, rfl, rfl, HX, HC⟩ := hrel
    by_cases hlt : k < m1
    · skip
      have hkn : k < n1 := by omega
      have hks : k < l1.length := by rw [← N1.out]; exact hkn
      have KR := HX.out.below OL.bw HB0.out HKW.out
      obtain ⟨qa, qc, eq, z1_, z2_, hq⟩ := (I1.out.kp KR).take m1 (by rw [← N1.out]; exact hm1)
      obtain ⟨g, off, hqq, hrg⟩ := hq (by omega)
      simp only [Value.slice.injEq] at eq
      obtain rfl : q1 = some ⟨g, off, none⟩ := eq.1.trans hqq
      obtain ⟨f0, f1, f2, f3, f4, f5⟩ := a6_cells (hrg k hlt)
      have fok := (I1.out.kp KR).ok k hks
      obtain ⟨a_, ha_⟩ : ∃ a_, a_ = l1.getD k noA6 := ⟨_, rfl⟩
      rw [← ha_] at f0 f1 f2 f3 f4 f5 fok
      obtain ⟨op_, i_, k_, d_, o_, kv_, KK_⟩ := a_
      simp only at f0 f1 f2 f3 f4 f5
      have hd8 : d_ < 256 := fok.d
      obtain ⟨va, vc, hva, z3_⟩ := fok.k.h
      simp only at hva
      subst hva
      obtain ⟨vn, hvn⟩ : ∃ vn, vn = KK_.length := ⟨_, rfl⟩
      rw [← hvn] at f5
      clear ha_ eq hqq hrg fok z1_ z2_ hq z3_ hvn
      obtain ⟨MI, hMI⟩ : ∃ MI, max 0 i_ = MI := ⟨_, rfl⟩
      obtain ⟨MK, hMK⟩ : ∃ MK, max 0 k_ = MK := ⟨_, rfl⟩
      obtain ⟨I, hI⟩ : ∃ I, MI % 4 = I := ⟨_, rfl⟩
      obtain ⟨J, hJ⟩ : ∃ J, MK % 8 = J := ⟨_, rfl⟩
      have hI2 : MI.tmod 4 = I := by rw [Int.tmod_eq_emod_of_nonneg (by omega)]; exact hI
      have hJ2 : MK.tmod 8 = J := by rw [Int.tmod_eq_emod_of_nonneg (by omega)]; exact hJ
      have hI0 : 0 ≤ I ∧ I < 4 := by omega
      have hJ0 : 0 ≤ J ∧ J < 8 := by omega
      have HI0 := hid hI0
      have HJ0 := hid hJ0
      clear hI0 hJ0
      have hSX := sector_any d_ hd8 false
      have HZX := hid (scS_size d_)
      obtain ⟨sX, hsX⟩ : ∃ sX, sX = scS d_ false := ⟨_, rfl⟩
      rw [← hsX] at hSX HZX
      have HSX := hid hSX
      clear hsX hSX
      obtain ⟨T1, hB1, sp1, nw1⟩ := HX.out
      obtain ⟨K, hK⟩ : ∃ K, K = wr.heap.size := ⟨_, rfl⟩
      obtain ⟨Wb, hWb⟩ : ∃ Wb, Wb = wr.alloc (.cells #[.int .i64 op_, .int .i64 i_, .int .i64 k_, .int .u8 (d_ : Int), .bool o_, .slice va vn vc] 31) := ⟨_, rfl⟩
      have kb : Kp wr Wb := by rw [hWb]; exact (Kp.refl wr).alloc _
      have C0 : Wb.cell? ⟨K, 0, none⟩ = some (.int .i64 op_) := by rw [hWb, World.cell?_alloc_at _ _ _ _ hK]; rfl
      have C1 : Wb.cell? ⟨K, 1, none⟩ = some (.int .i64 i_) := by rw [hWb, World.cell?_alloc_at _ _ _ _ hK]; rfl
      have HC2 : Hid (Wb.cell? ⟨K, 2, none⟩ = some (.int .i64 k_)) := by rw [hWb, World.cell?_alloc_at _ _ _ _ hK]; exact rfl
      have HC3 : Hid (Wb.cell? ⟨K, 3, none⟩ = some (.int .u8 (d_ : Int))) := by rw [hWb, World.cell?_alloc_at _ _ _ _ hK]; exact rfl
      have hKT : Hid (K ∉ T1) := fun hm => by have := OL.bw.low hB1 K hm; omega
      have HB1 : Hid (Bw w Wb b T1 B) := OL.bw.sp hB1 (kb.sp []) (fun _ _ h => by cases h)
      have HK1 := hid (KR.trans kb)
      have SP1 := hid (sp1.trans (kb.sp T))
      have NW1 := hid nw1
      have HWb := hid hWb
      have HK := hid hK
      have hg6 : Hid (B.g < 1000000) := by have := HC.out.g; show _ < _; omega
      clear hWb hK kb sp1 nw1 hB1 HX KR hd8
      obtain ⟨q, hq⟩ : ∃ q, bits .and .i64 op_ 1 = q := ⟨_, rfl⟩
      have hqd : q = 0 ∨ (q == 0) = false := by
        by_cases h : q = 0
        · exact .inl h
        · exact .inr (beq_eq_false_iff_ne.2 h)
      have z9 := hqd
      rcases hqd with rfl | hqd
      · clear z9
        go_wp2_with fail
        rw [← HWb.out, ← HK.out]
        · by_cases hjn : (j : Int) < n
          · have hop := HC.out.opY HI0.out.1 HI0.out.2 hjn (fun S => wrE S J sX) (fun S => Go.Proofs.Ytmklkdopmemfaaa.wr S J sX) (fun S hS => cz_wr hS HJ0.out.1 HJ0.out.2 sX HZX.out)
            obtain ⟨B', hB'⟩ : ∃ B', B' = opS B I (fun S => Go.Proofs.Ytmklkdopmemfaaa.wr S J sX) := ⟨_, rfl⟩
            rw [← hB'] at hop
            have c14 : ∀ V, Kp Wb V → Calls Try.prog 16 #[.pointer (some ⟨b, 0, none⟩), .int .i64 I, .int .i64 J, .string sX] V fun e V' => e = .returned (.int .i64 0) ∧ Nz Bw w Wb V' b T1 B' := fun V k => by
              have := bw_write (OL.bw.sp HB1.out (k.sp []) (fun _ _ h => by cases h)) (HK1.out.trans k) I J sX hg6.out
              rw [hop.1, ← hB'] at this
              exact this.mono fun e V' ⟨he, T2, q1, q2, q3⟩ => ⟨he, T2, q1, (k.sp _).trans q2, fun t ht => (q3 t ht).imp id (fun h => Nat.le_trans k.size h)⟩
            have c15 : ∀ V, Kp Wb V → Calls Try.prog 17 #[.int .u8 (d_ : Int), .bool false] V fun e V' => e = .returned (.string sX) ∧ Kp Wb V' := fun V k => (HSX.out V).mono fun e V' ⟨he, k'⟩ => ⟨he, k.trans k'⟩
            have hS1 : ∀ V, Kp Wb V → V.cell? ⟨K, 2, none⟩ = some (.int .i64 k_) ∧ V.cell? ⟨K, 3, none⟩ = some (.int .u8 (d_ : Int)) := fun V k => ⟨k.held HC2.out, k.held HC3.out⟩
            have hS2 : ∀ V, Nz Bw w Wb V b T1 B' → V.cell? ⟨K, 2, none⟩ = some (.int .i64 k_) ∧ V.cell? ⟨K, 3, none⟩ = some (.int .u8 (d_ : Int)) := fun V ⟨_, _, q2, _⟩ => ⟨q2.held HC2.out hKT.out, q2.held HC3.out hKT.out⟩
            have hr0 : Kp Wb Wb.drew := (Kp.refl _).drew
            have CZ' := hid hop.2
            clear hop hB'
            go_wp2_with fail
            go_region_held3 (fun V => V.cell? ⟨K, 2, none⟩ = some (.int .i64 k_) ∧ V.cell? ⟨K, 3, none⟩ = some (.int .u8 (d_ : Int))) (first | exact hS1 _ (by assumption) | exact hS2 _ (by assumption)) (first
              | (go_at_call 17; refine (c15 _ (by assumption)).mono ?_; rintro e wa ⟨rfl, ha⟩)
              | (go_at_call 16; refine (c14 _ (by assumption)).mono ?_; rintro e wb ⟨rfl, hb'⟩))
            all_goals (
              clear c15 c14 hS1 hS2 hr0 ha
              have KB := hid (hb'.below OL.bw HB1.out HK1.out)
              have NB : Hid (Nz Bw w W wb b T B') := by
                obtain ⟨T2, q1, q2, q3⟩ := hb'
                exact ⟨T2, q1, SP1.out.then q2 NW1.out, NW1.out.trans q3 SP1.out.size⟩
              clear hb'
              by_cases hj2 : (((j + 1 : Nat)) : Int) < n
              · obtain ⟨T3, h3, s3, n3⟩ := NB.out
                have hrd := bw_read h3 KB.out I 0
                have hz := CZ'.out.rdY HI0.out.1 HI0.out.2 hj2
                obtain ⟨B2, hB2⟩ : ∃ B2, B2 = rdB B' I 0 := ⟨_, rfl⟩
                rw [hz.1, ← hB2] at hrd
                rw [← hB2] at hz
                have ho := hz.2.offY hj2
                have CZ2 := hid hz.2
                obtain ⟨sR, hsR⟩ : ∃ sR, sR = rdT B' I 0 := ⟨_, rfl⟩
                rw [← hsR] at hrd
                clear hz hB2 hsR
                have hj3 : decide (n ≤ (((j + 1 : Nat)) : Int)) = false := decide_eq_false (by omega)
                have hj4 : decide ((j : Int) < n) = true := decide_eq_true (by omega)
                go_wp2_with fail
                refine hrd.mono ?_
                rintro e wd ⟨rfl, hd'⟩
                have hof : Calls Try.prog 20 #[.pointer (some ⟨b, 0, none⟩)] wd fun e w' => e = .returned (.bool false) ∧ w' = wd := by
                  obtain ⟨T4, q1, _, _⟩ := hd'
                  have := bw_off q1
                  rw [ho] at this
                  exact this
                have ND : Hid (Nz Bw w W wd b T B2) := by
                  obtain ⟨T4, q1, q2, q3⟩ := hd'
                  exact ⟨T4, q1, s3.then q2 n3, n3.trans q3 s3.size⟩
                clear hrd hd' ho h3 s3 n3
                go_wp2_with fail
                refine hof.mono ?_
                rintro e we ⟨rfl, rfl⟩
                clear hof
                go_wp2
                go_roundw
                case rel => exact ⟨k + 1, j + 1, B2, by omega, by omega, by go_num, by go_num, ND, CZ2⟩
                case measure => simp [intOf]; omega
              · obtain ⟨T3, h3, s3, n3⟩ := NB.out
                have hrd := bw_read h3 KB.out I 0
                have hz := CZ'.out.rdN HI0.out.1 HI0.out.2 hj2
                obtain ⟨B2, hB2⟩ : ∃ B2, B2 = rdB B' I 0 := ⟨_, rfl⟩
                rw [hz.1, ← hB2] at hrd
                rw [← hB2] at hz
                have ho := hz.2.offN hj2
                have CZ2 := hid hz.2
                obtain ⟨sR, hsR⟩ : ∃ sR, sR = rdT B' I 0 := ⟨_, rfl⟩
                rw [← hsR] at hrd
                clear hz hB2 hsR
                have hj3 : decide (n ≤ (((j + 1 : Nat)) : Int)) = true := decide_eq_true (by omega)
                have hj4 : decide ((j : Int) < n) = true := decide_eq_true (by omega)
                go_wp2_with fail
                refine hrd.mono ?_
                rintro e wd ⟨rfl, hd'⟩
                have hof : Calls Try.prog 20 #[.pointer (some ⟨b, 0, none⟩)] wd fun e w' => e = .returned (.bool true) ∧ w' = wd := by
                  obtain ⟨T4, q1, _, _⟩ := hd'
                  have := bw_off q1
                  rw [ho] at this
                  exact this
                have ND : Hid (Nz Bw w W wd b T B2) := by
                  obtain ⟨T4, q1, q2, q3⟩ := hd'
                  exact ⟨T4, q1, s3.then q2 n3, n3.trans q3 s3.size⟩
                clear hrd hd' ho h3 s3 n3
                go_wp2_with fail
                refine hof.mono ?_
                rintro e we ⟨rfl, rfl⟩
                clear hof
                go_wp2
                go_roundw
                case rel => exact ⟨k + 1, j + 1, B2, by omega, by omega, by go_num, by go_num, ND, CZ2⟩
                case measure => simp [intOf]; omega)
          · have hop := HC.out.opN HI0.out.1 HI0.out.2 hjn (fun S => wrE S J sX) (fun S => Go.Proofs.Ytmklkdopmemfaaa.wr S J sX)
            obtain ⟨B', hB'⟩ : ∃ B', B' = opS B I (fun S => Go.Proofs.Ytmklkdopmemfaaa.wr S J sX) := ⟨_, rfl⟩
            rw [← hB'] at hop
            have c14 : ∀ V, Kp Wb V → Calls Try.prog 16 #[.pointer (some ⟨b, 0, none⟩), .int .i64 I, .int .i64 J, .string sX] V fun e V' => e = .returned (.int .i64 21) ∧ Nz Bw w Wb V' b T1 B' := fun V k => by
              have := bw_write (OL.bw.sp HB1.out (k.sp []) (fun _ _ h => by cases h)) (HK1.out.trans k) I J sX hg6.out
              rw [hop.1, ← hB'] at this
              exact this.mono fun e V' ⟨he, T2, q1, q2, q3⟩ => ⟨he, T2, q1, (k.sp _).trans q2, fun t ht => (q3 t ht).imp id (fun h => Nat.le_trans k.size h)⟩
            have c15 : ∀ V, Kp Wb V → Calls Try.prog 17 #[.int .u8 (d_ : Int), .bool false] V fun e V' => e = .returned (.string sX) ∧ Kp Wb V' := fun V k => (HSX.out V).mono fun e V' ⟨he, k'⟩ => ⟨he, k.trans k'⟩
            have hS1 : ∀ V, Kp Wb V → V.cell? ⟨K, 2, none⟩ = some (.int .i64 k_) ∧ V.cell? ⟨K, 3, none⟩ = some (.int .u8 (d_ : Int)) := fun V k => ⟨k.held HC2.out, k.held HC3.out⟩
            have hS2 : ∀ V, Nz Bw w Wb V b T1 B' → V.cell? ⟨K, 2, none⟩ = some (.int .i64 k_) ∧ V.cell? ⟨K, 3, none⟩ = some (.int .u8 (d_ : Int)) := fun V ⟨_, _, q2, _⟩ => ⟨q2.held HC2.out hKT.out, q2.held HC3.out hKT.out⟩
            have hr0 : Kp Wb Wb.drew := (Kp.refl _).drew
            have CZ' := hid hop.2
            clear hop hB'
            go_wp2_with fail
            go_region_held3 (fun V => V.cell? ⟨K, 2, none⟩ = some (.int .i64 k_) ∧ V.cell? ⟨K, 3, none⟩ = some (.int .u8 (d_ : Int))) (first | exact hS1 _ (by assumption) | exact hS2 _ (by assumption)) (first
              | (go_at_call 17; refine (c15 _ (by assumption)).mono ?_; rintro e wa ⟨rfl, ha⟩)
              | (go_at_call 16; refine (c14 _ (by assumption)).mono ?_; rintro e wb ⟨rfl, hb'⟩))
            all_goals (
              clear c15 c14 hS1 hS2 hr0 ha
              have KB := hid (hb'.below OL.bw HB1.out HK1.out)
              have NB : Hid (Nz Bw w W wb b T B') := by
                obtain ⟨T2, q1, q2, q3⟩ := hb'
                exact ⟨T2, q1, SP1.out.then q2 NW1.out, NW1.out.trans q3 SP1.out.size⟩
              clear hb'
              by_cases hj2 : (((j : Nat)) : Int) < n
              · exact absurd hj2 (by omega)
              · obtain ⟨T3, h3, s3, n3⟩ := NB.out
                have hrd := bw_read h3 KB.out I 0
                have hz := CZ'.out.rdN HI0.out.1 HI0.out.2 hj2
                obtain ⟨B2, hB2⟩ : ∃ B2, B2 = rdB B' I 0 := ⟨_, rfl⟩
                rw [hz.1, ← hB2] at hrd
                rw [← hB2] at hz
                have ho := hz.2.offN hj2
                have CZ2 := hid hz.2
                obtain ⟨sR, hsR⟩ : ∃ sR, sR = rdT B' I 0 := ⟨_, rfl⟩
                rw [← hsR] at hrd
                clear hz hB2 hsR
                have hj3 : decide (n ≤ (((j : Nat)) : Int)) = true := decide_eq_true (by omega)
                have hj4 : decide ((j : Int) < n) = false := decide_eq_false (by omega)
                go_wp2_with fail
                refine hrd.mono ?_
                rintro e wd ⟨rfl, hd'⟩
                have hof : Calls Try.prog 20 #[.pointer (some ⟨b, 0, none⟩)] wd fun e w' => e = .returned (.bool true) ∧ w' = wd := by
                  obtain ⟨T4, q1, _, _⟩ := hd'
                  have := bw_off q1
                  rw [ho] at this
                  exact this
                have ND : Hid (Nz Bw w W wd b T B2) := by
                  obtain ⟨T4, q1, q2, q3⟩ := hd'
                  exact ⟨T4, q1, s3.then q2 n3, n3.trans q3 s3.size⟩
                clear hrd hd' ho h3 s3 n3
                go_wp2_with fail
                refine hof.mono ?_
                rintro e we ⟨rfl, rfl⟩
                clear hof
                go_wp2
                go_roundw
                case rel => exact ⟨k + 1, j, B2, by omega, by omega, by go_num, by go_num, ND, CZ2⟩
                case measure => simp [intOf]; omega)
      · clear z9
        go_wp2_with fail
        rw [← HWb.out, ← HK.out]
        · by_cases hjn : (j : Int) < n
          · have hop := HC.out.opY HI0.out.1 HI0.out.2 hjn (flE) (fl) (fun S hS => cz_fl hS)
            obtain ⟨B', hB'⟩ : ∃ B', B' = opS B I (fl) := ⟨_, rfl⟩
            rw [← hB'] at hop
            have c14 := bw_flush HB1.out HK1.out I hg6.out
            rw [hop.1, ← hB'] at c14
            have CZ' := hid hop.2
            clear hop hB'
            go_wp2_with fail
            refine c14.mono ?_
            rintro e wb ⟨rfl, hb'⟩
            clear c14
            have KB := hid (hb'.below OL.bw HB1.out HK1.out)
            have NB : Hid (Nz Bw w W wb b T B') := by
              obtain ⟨T2, q1, q2, q3⟩ := hb'
              exact ⟨T2, q1, SP1.out.then q2 NW1.out, NW1.out.trans q3 SP1.out.size⟩
            clear hb'
            by_cases hj2 : (((j + 1 : Nat)) : Int) < n
            · obtain ⟨T3, h3, s3, n3⟩ := NB.out
              have hrd := bw_read h3 KB.out I 0
              have hz := CZ'.out.rdY HI0.out.1 HI0.out.2 hj2
              obtain ⟨B2, hB2⟩ : ∃ B2, B2 = rdB B' I 0 := ⟨_, rfl⟩
              rw [hz.1, ← hB2] at hrd
              rw [← hB2] at hz
              have ho := hz.2.offY hj2
              have CZ2 := hid hz.2
              obtain ⟨sR, hsR⟩ : ∃ sR, sR = rdT B' I 0 := ⟨_, rfl⟩
              rw [← hsR] at hrd
              clear hz hB2 hsR
              have hj3 : decide (n ≤ (((j + 1 : Nat)) : Int)) = false := decide_eq_false (by omega)
              have hj4 : decide ((j : Int) < n) = true := decide_eq_true (by omega)
              go_wp2_with fail
              refine hrd.mono ?_
              rintro e wd ⟨rfl, hd'⟩
              have hof : Calls Try.prog 20 #[.pointer (some ⟨b, 0, none⟩)] wd fun e w' => e = .returned (.bool false) ∧ w' = wd := by
                obtain ⟨T4, q1, _, _⟩ := hd'
                have := bw_off q1
                rw [ho] at this
                exact this
              have ND : Hid (Nz Bw w W wd b T B2) := by
                obtain ⟨T4, q1, q2, q3⟩ := hd'
                exact ⟨T4, q1, s3.then q2 n3, n3.trans q3 s3.size⟩
              clear hrd hd' ho h3 s3 n3
              go_wp2_with fail
              refine hof.mono ?_
              rintro e we ⟨rfl, rfl⟩
              clear hof
              go_wp2
              go_roundw
              case rel => exact ⟨k + 1, j + 1, B2, by omega, by omega, by go_num, by go_num, ND, CZ2⟩
              case measure => simp [intOf]; omega
            · obtain ⟨T3, h3, s3, n3⟩ := NB.out
              have hrd := bw_read h3 KB.out I 0
              have hz := CZ'.out.rdN HI0.out.1 HI0.out.2 hj2
              obtain ⟨B2, hB2⟩ : ∃ B2, B2 = rdB B' I 0 := ⟨_, rfl⟩
              rw [hz.1, ← hB2] at hrd
              rw [← hB2] at hz
              have ho := hz.2.offN hj2
              have CZ2 := hid hz.2
              obtain ⟨sR, hsR⟩ : ∃ sR, sR = rdT B' I 0 := ⟨_, rfl⟩
              rw [← hsR] at hrd
              clear hz hB2 hsR
              have hj3 : decide (n ≤ (((j + 1 : Nat)) : Int)) = true := decide_eq_true (by omega)
              have hj4 : decide ((j : Int) < n) = true := decide_eq_true (by omega)
              go_wp2_with fail
              refine hrd.mono ?_
              rintro e wd ⟨rfl, hd'⟩
              have hof : Calls Try.prog 20 #[.pointer (some ⟨b, 0, none⟩)] wd fun e w' => e = .returned (.bool true) ∧ w' = wd := by
                obtain ⟨T4, q1, _, _⟩ := hd'
                have := bw_off q1
                rw [ho] at this
                exact this
              have ND : Hid (Nz Bw w W wd b T B2) := by
                obtain ⟨T4, q1, q2, q3⟩ := hd'
                exact ⟨T4, q1, s3.then q2 n3, n3.trans q3 s3.size⟩
              clear hrd hd' ho h3 s3 n3
              go_wp2_with fail
              refine hof.mono ?_
              rintro e we ⟨rfl, rfl⟩
              clear hof
              go_wp2
              go_roundw
              case rel => exact ⟨k + 1, j + 1, B2, by omega, by omega, by go_num, by go_num, ND, CZ2⟩
              case measure => simp [intOf]; omega
          · have hop := HC.out.opN HI0.out.1 HI0.out.2 hjn (flE) (fl)
            obtain ⟨B', hB'⟩ : ∃ B', B' = opS B I (fl) := ⟨_, rfl⟩
            rw [← hB'] at hop
            have c14 := bw_flush HB1.out HK1.out I hg6.out
            rw [hop.1, ← hB'] at c14
            have CZ' := hid hop.2
            clear hop hB'
            go_wp2_with fail
            refine c14.mono ?_
            rintro e wb ⟨rfl, hb'⟩
            clear c14
            have KB := hid (hb'.below OL.bw HB1.out HK1.out)
            have NB : Hid (Nz Bw w W wb b T B') := by
              obtain ⟨T2, q1, q2, q3⟩ := hb'
              exact ⟨T2, q1, SP1.out.then q2 NW1.out, NW1.out.trans q3 SP1.out.size⟩
            clear hb'
            by_cases hj2 : (((j : Nat)) : Int) < n
            · exact absurd hj2 (by omega)
            · obtain ⟨T3, h3, s3, n3⟩ := NB.out
              have hrd := bw_read h3 KB.out I 0
              have hz := CZ'.out.rdN HI0.out.1 HI0.out.2 hj2
              obtain ⟨B2, hB2⟩ : ∃ B2, B2 = rdB B' I 0 := ⟨_, rfl⟩
              rw [hz.1, ← hB2] at hrd
              rw [← hB2] at hz
              have ho := hz.2.offN hj2
              have CZ2 := hid hz.2
              obtain ⟨sR, hsR⟩ : ∃ sR, sR = rdT B' I 0 := ⟨_, rfl⟩
              rw [← hsR] at hrd
              clear hz hB2 hsR
              have hj3 : decide (n ≤ (((j : Nat)) : Int)) = true := decide_eq_true (by omega)
              have hj4 : decide ((j : Int) < n) = false := decide_eq_false (by omega)
              go_wp2_with fail
              refine hrd.mono ?_
              rintro e wd ⟨rfl, hd'⟩
              have hof : Calls Try.prog 20 #[.pointer (some ⟨b, 0, none⟩)] wd fun e w' => e = .returned (.bool true) ∧ w' = wd := by
                obtain ⟨T4, q1, _, _⟩ := hd'
                have := bw_off q1
                rw [ho] at this
                exact this
              have ND : Hid (Nz Bw w W wd b T B2) := by
                obtain ⟨T4, q1, q2, q3⟩ := hd'
                exact ⟨T4, q1, s3.then q2 n3, n3.trans q3 s3.size⟩
              clear hrd hd' ho h3 s3 n3
              go_wp2_with fail
              refine hof.mono ?_
              rintro e we ⟨rfl, rfl⟩
              clear hof
              go_wp2
              go_roundw
              case rel => exact ⟨k + 1, j, B2, by omega, by omega, by go_num, by go_num, ND, CZ2⟩
              case measure => simp [intOf]; omega
    · obtain rfl : k = m1 := by omega
      have KR := HX.out.below OL.bw HB0.out HKW.out
      obtain ⟨T1, h1, _, _⟩ := HX.out
      have hs1 := bw_steps h1
      rw [HC.out.md] at hs1
      obtain ⟨d1, d2, d3⟩ := cz_end HC.out
      have hcr := bw_crash h1 KR _ 0 (fun _ => []) (Ks.none _ _ _) (by have := HC.out.g; omega)
      have H1 := hid h1
      have HG : Hid ((crB B (fun _ => [])).g < 1000000) := by have := HC.out.g; show B.g < 1000000; omega
      obtain ⟨B2, hB2⟩ : ∃ B2, B2 = crB B (fun _ => []) := ⟨_, rfl⟩
      rw [← hB2] at d1 d2 d3 hcr HG
      have D1 := hid d1
      have D2 := hid d2
      have D3 := hid d3
      clear h1 d1 d2 d3 hB2 HC HX
      go_wp2_with fail
      refine hs1.mono ?_
      rintro e v1 ⟨rfl, rfl⟩
      go_wp2_with fail
      refine hcr.mono ?_
      rintro e v2 ⟨rfl, n2⟩
      have K2 := n2.below OL.bw H1.out KR
      obtain ⟨T2, h2, _, _⟩ := n2
      have hof := bw_off h2
      rw [D1.out] at hof
      have hfl := bw_flush h2 K2 3 HG.out
      rw [D2.out] at hfl
      have H2 := hid h2
      have HK2 := hid K2
      clear hs1 hcr h2 K2 KR
      go_wp2_with fail
      refine hof.mono ?_
      rintro e v3 ⟨rfl, rfl⟩
      go_wp2_with fail
      refine hfl.mono ?_
      rintro e v4 ⟨rfl, n4⟩
      have K4 := hid (n4.below OL.bw H2.out HK2.out)
      obtain ⟨T4, h4, _, _⟩ := n4
      have hs4 := bw_steps h4
      rw [D3.out] at hs4
      clear hof hfl h4
      go_wp2_with fail
      refine hs4.mono ?_
      rintro e v5 ⟨rfl, rfl⟩
      go_wp2
      go_ret
      exact ⟨rfl, K4.out⟩
theorem walk (w : World) (a0 : Int) (a1 : Value) (l1 : List A6) (w0 : (Lit.int .i64 a0).wf = true) (w1 : Acts6 w a1 l1) :
    Calls Try.prog 4 #[.int .i64 a0, a1] w fun e w' => e = .returned (.bool true) ∧ Kp w w' := by
  exact walkN w a0 w0 a1 l1 w1

set_option maxRecDepth 100000 in
theorem lifted (os : Os) (started : os.Started) (H : Type) (enc : TypeId × Value → H) :
    ReturnsInHanded {} Try.checked os 4 .any (Rows.bayCutSpec.pre6 enc Try.prog Try.f4 Rows.bayCutRow.domain false) (Rows.bayCutSpec.post enc Try.prog Try.f4 false true false false) := by
  refine returnsInHanded_of_change (C := Try.checked) own started (by kernel_rfl) Try.func4
    (ChangeSpec.witness6 (enc := enc) (C := Try.checked) false ⟨#[], #[.int .i64 0, .slice none 0 0], []⟩ 8 (by kernel_rfl) (by kernel_rfl) (by kernel_rfl) (by kernel_rfl)) ?_
  intro W base args ds gs before hval0 hW hcnd _
  have hval : ∀ (j : Nat) t v, Try.f4.params[j]? = some t → args[j]? = some v → Value.okWide Try.prog W .any base t v := hval0
  have hW' := hW
  have hlt := hW.lt
  obtain ⟨p, q, hA0, hV, rfl, hfz, hnd⟩ := hW
  have hA : DataW.TrodAll enc Try.prog W 0 (fun _ => true) true Try.f4.params.toList args.toList ds p := hA0
  have hAk := hA
  rw [Try.params4] at hA hval
  obtain ⟨v0, vs0, d0, ds0, p0, q0, hargs, rfl, rfl, h0, r0⟩ := trodAll_cons hA
  obtain ⟨v1, vs1, d1, ds1, p1, q1, rfl, rfl, rfl, h1, r1⟩ := trodAll_cons r0
  obtain ⟨rfl, rfl, rfl⟩ := trodAll_nil r1
  obtain rfl : args = #[v0, v1] := by cases args; simp_all
  obtain ⟨rfl, rfl⟩ := trodVars_none hV
  obtain ⟨a0, rfl, rfl, rfl, w0⟩ := open_int Try.underlying3 (hval 0 3 v0 rfl rfl) h0
  obtain ⟨l1, w1⟩ := open_as6 (hval 1 22 v1 rfl rfl) h1
  clear hA0 hval0
  simp only [List.append_nil] at hW' hAk hlt
  refine (walk W a0 v1 l1 w0 w1).mono fun e W' ⟨he, hg⟩ => ?_
  subst he
  exact ⟨_, rfl, post_kp (pv := []) hW' (fun _ _ _ => (trodAll_cons_mk (shut_bool Try.underlying4 _) trodAll_mk0)) (fun sp hsp => trodAll_stays laidOut (by rw [Try.params4]; exact of_decide_eq_true (by kernel_rfl)) hAk (fun x hx => Below.same hg (hlt x hx)) hsp) (fun _ _ => rfl) (by simp) hg⟩

theorem over : Rows.bayCutRow.holds Try.pinned (OpenSpec.ofChange Rows.bayCutSpec) :=
  OpenClaim.holds_of_wide 4 Try.f4 rfl rfl rfl rfl rfl rfl rfl ⟨rfl, rfl, rfl, rfl, rfl⟩ rfl rfl rfl rfl rfl (by kernel_rfl) Try.func4 (by kernel_rfl)
    (of_decide_eq_true (by kernel_rfl)) (by unfold Func.isWrapper; first | (rw [if_pos (by decide +kernel)]; kernel_rfl) | (rw [if_neg (by decide +kernel)]; exact ⟨rfl, rfl⟩))
    (fun os started H enc _ => lifted os started H enc)

end Go.Proofs.Ytmklkdopmemfaaa.bayCut
namespace Go.Proofs.Ytmklkdopmemfaaa
theorem bayCut_holds : Rows.BayCutSaid := bayCut.over
end Go.Proofs.Ytmklkdopmemfaaa
