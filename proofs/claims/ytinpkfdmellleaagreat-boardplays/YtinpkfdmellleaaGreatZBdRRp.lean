/-
  Contracts of the document's Fail, Replace and Advance: the walks. Conditions: that its board lies in memory, its label has as many members as its bay, and its Epoch isn't the last one.
-/
import Derived.Test.YtinpkfdmellleaaGreatZBdROps
namespace Go.Proofs.YtinpkfdmellleaaGreat
open Go.RowKit Plain
set_option linter.unusedVariables false

set_option maxRecDepth 100000 in
set_option maxHeartbeats 4000000 in
theorem rbreplace_l {w0 w : World} {x b : Nat} {T : List Nat} {K : KS} {sv mv : Value} (h : YX w0 w x b T K sv mv) (hK : Kp w0 w) (ok : Kok K) (m : Int) : Calls Tryz.prog 44 #[.pointer (some ⟨x, 0, none⟩), .int .i64 m] w fun e w' => e = .returned (.int .i64 (brE K m)) ∧ Yl w0 w w' x b T (brK K m) (lbs sv mv) := by
  have hgd := h.bay.gd
  obtain ⟨B, L⟩ := K
  obtain ⟨hn, hs1, hs2, he0, he1, hg⟩ := ok
  dsimp only at hn hs1 hs2 he0 he1 hg hgd
  have hb2 := hgd.n2
  have HGd := hid hgd
  have HH := hid h
  have HK := hid hK
  obtain ⟨E, eE⟩ : ∃ E, E = brE ⟨B, L⟩ m := ⟨_, rfl⟩
  obtain ⟨KK, eK⟩ : ∃ E, E = brK ⟨B, L⟩ m := ⟨_, rfl⟩
  rw [← eE, ← eK]
  have HEE : Hid (E = brE ⟨B, L⟩ m) := eE
  have HEK : Hid (KK = brK ⟨B, L⟩ m) := eK
  clear eE eK h hK hgd
  have x0 := HH.out.c0
  have x1 := HH.out.c1
  have x2 := HH.out.c2
  have x3 := HH.out.c3
  dsimp only at x0 x1 x2 x3
  by_cases hin : inK ⟨B, L⟩ m
  case neg =>
    have hE : E = 3 := by rw [HEE.out]; unfold brE; rw [if_neg hin]
    have hKK : Hid (KK = ⟨B, L⟩) := by show KK = _; rw [HEK.out]; unfold brK; rw [if_neg hin]
    have hm3 : ¬ (0 ≤ m ∧ m < L.n) := hin
    subst hE
    by_cases h1 : m < 0
    · clear hm3 hin
      go_enter Tryz.func44, Tryz.ntmps44
      go_wp2
      go_ret
      exact ⟨rfl, by rw [hKK.out]; exact Yl.refl HH.out⟩
    · have h2 : L.n ≤ m := by omega
      clear hm3 hin
      go_enter Tryz.func44, Tryz.ntmps44
      go_wp2
      go_ret
      exact ⟨rfl, by rw [hKK.out]; exact Yl.refl HH.out⟩
  case pos =>
    have hm2 : 0 ≤ m ∧ m < L.n := hin
    obtain ⟨mm, rfl⟩ : ∃ mm : Nat, m = mm := ⟨m.toNat, by omega⟩
    have hmB : mm < B.ms.length := by omega
    obtain ⟨g1, o1, c1, rfl, r1, r2, r3⟩ := HH.out.n1.at (by dsimp only; omega)
    obtain ⟨g2, o2, c2, rfl, r4, r5, r6⟩ := HH.out.n2.at (by dsimp only; omega)
    have st := r3 mm (by dsimp only; omega)
    have mt := r6 mm (by dsimp only; omega)
    dsimp only at st mt r1 r4
    have x4 := HH.out.c4
    have x5 := HH.out.c5
    dsimp only at x4 x5
    have HX := hid HH.out
    obtain ⟨S1, hS1⟩ : ∃ S, S = L.sts.getD mm 0 := ⟨_, rfl⟩
    obtain ⟨S2, hS2⟩ : ∃ S, S = L.mks.getD mm 0 := ⟨_, rfl⟩
    rw [← hS1] at st
    rw [← hS2] at mt
    have HS1 := hid hS1
    have HS2 := hid hS2
    obtain ⟨nS, hnS⟩ : ∃ k, k = L.sts.length := ⟨_, rfl⟩
    obtain ⟨nM, hnM⟩ : ∃ k, k = L.mks.length := ⟨_, rfl⟩
    rw [← hnS] at r1 x4 HX hs1
    rw [← hnM] at r4 x5 HX hs2
    have HnS := hid hnS
    have HnM := hid hnM
    have hxm : mm < nS := by omega
    have hxn : mm < nM := by omega
    have hl1 : L.sts.length ≤ 32 ∧ mm < L.sts.length ∧ L.mks.length ≤ 32 ∧ mm < L.mks.length := by omega
    have HLn := hid hl1
    have hc0 : (0 : Int) ≤ (mm : Int) := by omega
    have hcS : (mm : Int) < (nS : Int) := by omega
    have hcM : (mm : Int) < (nM : Int) := by omega
    have hcn : ¬ L.n ≤ (mm : Int) := by omega
    have hcm : ¬ (mm : Int) < 0 := by omega
    have HEQ := hid (And.intro hn (And.intro hs1 hs2))
    clear hS1 hS2 r3 r6 HH hnS hnM hl1 hm2 hn hs1 hs2
    have b0 := dk_at HX.out.bay HK.out mm hmB
    obtain ⟨m_, cap, z, k0, k1, ⟨k2, k3⟩, k4, hFa, hRp⟩ := b0
    dsimp only at k0 k2 k4 hFa hRp
    obtain ⟨NB, hNB⟩ : ∃ k, k = B.ms.length := ⟨_, rfl⟩
    have HNB := hid hNB
    have hcB : (mm : Int) < (NB : Int) := by omega
    rw [← hNB] at k0 k2
    have hR1 := hRp w (Kp.refl w)
    clear hFa hRp k4 hNB
    by_cases h1 : S1 = 1
    case neg =>
      have hE : E = 12 := by rw [HEE.out]; unfold brE; rw [if_pos hin]; dsimp only; rw [if_neg (by rw [Int.toNat_natCast, ← HS1.out]; exact h1)]
      have hKK : Hid (KK = ⟨B, L⟩) := by show KK = _; rw [HEK.out]; unfold brK; rw [if_pos hin]; dsimp only; rw [if_neg (by rw [Int.toNat_natCast, ← HS1.out]; exact h1)]
      have b1 : (S1 == 1) = false := by simpa using h1
      subst hE
      clear hin
      go_enter Tryz.func44, Tryz.ntmps44
      go_wp2
      go_ret
      exact ⟨rfl, by rw [hKK.out]; have h9 := Yl.refl HX.out; exact h9⟩
    case pos =>
      have HEs : Hid (E = puE' (rpK ⟨B, L⟩ mm) (chL L mm 2 0)) := by show E = _; rw [HEE.out]; unfold brE; rw [if_pos hin]; dsimp only; rw [Int.toNat_natCast, if_pos (by rw [← HS1.out]; exact h1)]
      have HKs : Hid (KK = puK (rpK ⟨B, L⟩ mm) (chL L mm 2 0)) := by show KK = _; rw [HEK.out]; unfold brK; rw [if_pos hin]; dsimp only; rw [Int.toNat_natCast, if_pos (by rw [← HS1.out]; exact h1)]
      clear hin
      subst h1
      go_enter Tryz.func44, Tryz.ntmps44
      go_wp2_with fail
      refine hR1.mono ?_; rintro e v ⟨rfl, T1, hB1, s1, n1⟩
      have Xv : Hid (YX w0 v x b T1 (rpK ⟨B, L⟩ mm) (.slice (some ⟨g1, o1, none⟩) nS c1) (.slice (some ⟨g2, o2, none⟩) nM c2)) := HX.out.bayX hB1 s1 n1
      have Sv : Hid (Sp (x :: T) w v) := s1.mono (fun t ht => List.mem_cons_of_mem _ ht)
      have Nv : Hid (Nw w T T1) := n1
      have Kv : Hid (Kp w0 v) := Sp.kp HK.out s1 (OL.dw.new HX.out.bay)
      obtain ⟨x0', x1', x2', x3', x4', x5'⟩ : v.cell? ⟨x, 0, none⟩ = some (.pointer (some ⟨b, 0, none⟩)) ∧ v.cell? ⟨x, 1, none⟩ = some (.int .i64 L.n) ∧ v.cell? ⟨x, 2, none⟩ = some (.int .i64 L.s) ∧ v.cell? ⟨x, 3, none⟩ = some (.int .i64 L.ep) ∧ v.cell? ⟨x, 4, none⟩ = some (.slice (some ⟨g1, o1, none⟩) nS c1) ∧ v.cell? ⟨x, 5, none⟩ = some (.slice (some ⟨g2, o2, none⟩) nM c2) := ⟨Xv.out.c0, Xv.out.c1, Xv.out.c2, Xv.out.c3, Xv.out.c4, Xv.out.c5⟩
      clear hR1 hB1 s1 n1 x0 x1 x2 x3 x4 x5 k0 k1 st mt
      have hCo := copied_any L.n L.s L.ep L.sts L.mks (.slice (some ⟨g1, o1, none⟩) nS c1) (.slice (some ⟨g2, o2, none⟩) nM c2) v Xv.out.n1 Xv.out.n2 (by have := HLn.out.1; omega) (by have := HLn.out.2.2.1; omega)
      unfold lV at hCo
      go_wp2_with fail
      refine hCo.mono ?_; rintro e z1 ⟨u1, u2, rfl, tw, k1⟩
      obtain ⟨a1, a2, d1, d2, rfl, rfl, lw⟩ := Lw.new tw k1 (by have := HLn.out; omega) (by have := HLn.out; omega) L.n L.s L.ep 66
      obtain ⟨Z, hZ⟩ : ∃ Z, Z = z1.alloc (.cells #[.int .i64 L.n, .int .i64 L.s, .int .i64 L.ep, .slice (some ⟨a1, 0, none⟩) L.sts.length d1, .slice (some ⟨a2, 0, none⟩) L.mks.length d2] 66) := ⟨_, rfl⟩
      have HZ := hid hZ
      rw [← hZ] at lw
      clear hCo tw k1 hZ
      go_upto_region 7 with fail
      rw [← HZ.out]
      clear HZ
      obtain ⟨XX, hXX⟩ : ∃ X, X = z1.heap.size := ⟨_, rfl⟩
      rw [← hXX] at lw ⊢
      have HXX := hid hXX
      obtain ⟨lS, hlS⟩ : ∃ k, k = L.sts.length := ⟨_, rfl⟩
      obtain ⟨lM, hlM⟩ : ∃ k, k = L.mks.length := ⟨_, rfl⟩
      rw [← hlS, ← hlM] at lw ⊢
      have HlS := hid hlS
      have HlM := hid hlM
      clear hlS hlM hXX
      have LW0 := hid lw
      clear lw
      obtain ⟨d0_, d1_, d2_, d3_, d4_⟩ := LW0.out.lc
      obtain ⟨f1, f2, y1, y2⟩ := LW0.out.at (by have := HLn.out; (try simp only [List.length_set]); omega) (by have := HLn.out; (try simp only [List.length_set]); omega)
      have y := y1 mm (by have := HLn.out; (try simp only [List.length_set]); omega)
      have e1 := LW0.out.e1
      have e2 := LW0.out.e2
      try simp only [List.length_set] at e1 e2
      have q1 : mm < lS := by have := HLn.out; omega
      have q2 : mm < lM := by have := HLn.out; omega
      obtain ⟨q3, q4⟩ := e1.2
      obtain ⟨q5, q6⟩ := e2.2
      clear e1 e2
      have LW1 := hid (LW0.out.p1 mm 2)
      obtain ⟨Z1, hZ1⟩ : ∃ U, U = Z.setCell ⟨a1, mm, none⟩ (.int .i64 2) := ⟨_, rfl⟩
      have HZ := hid hZ1
      rw [← hZ1] at LW1
      clear hZ1 y1 y2
      go_upto_region 8 with fail
      rw [← HZ.out]
      clear HZ d0_ d1_ d2_ d3_ d4_ f1 f2 y LW0 q3 q4 q5 q6
      obtain ⟨d0_, d1_, d2_, d3_, d4_⟩ := LW1.out.lc
      obtain ⟨f1, f2, y1, y2⟩ := LW1.out.at (by have := HLn.out; (try simp only [List.length_set]); omega) (by have := HLn.out; (try simp only [List.length_set]); omega)
      have y := y2 mm (by have := HLn.out; (try simp only [List.length_set]); omega)
      have e1 := LW1.out.e1
      have e2 := LW1.out.e2
      try simp only [List.length_set] at e1 e2
      have q1 : mm < lS := by have := HLn.out; omega
      have q2 : mm < lM := by have := HLn.out; omega
      obtain ⟨q3, q4⟩ := e1.2
      obtain ⟨q5, q6⟩ := e2.2
      clear e1 e2
      have LW2 := hid (LW1.out.p2 mm 0)
      obtain ⟨Z2, hZ2⟩ : ∃ U, U = Z1.setCell ⟨a2, mm, none⟩ (.int .i64 0) := ⟨_, rfl⟩
      have HZ := hid hZ2
      rw [← hZ2] at LW2
      clear hZ2 y1 y2
      go_upto_region 9 with fail
      rw [← HZ.out]
      clear HZ d0_ d1_ d2_ d3_ d4_ f1 f2 y LW1 q3 q4 q5 q6
      obtain ⟨d0_, d1_, d2_, d3_, d4_⟩ := LW2.out.lc

      have hPb := lw_pub (M := chL L mm 2 0) Xv.out Kv.out Sv.out Nv.out LW2.out he0 he1 (by exact hg)
      rw [show puE' (rpK ⟨B, L⟩ mm) (chL L mm 2 0) = E from HEs.out.symm, show puK (rpK ⟨B, L⟩ mm) (chL L mm 2 0) = KK from HKs.out.symm] at hPb
      unfold lV at hPb
      dsimp only [chL] at hPb
      go_wp2_with fail
      refine hPb.mono ?_; rintro e vz ⟨rfl, hy⟩
      have HY := hid hy
      clear hPb hy
      go_wp2
      go_ret
      exact ⟨rfl, HY.out⟩

end Go.Proofs.YtinpkfdmellleaaGreat
