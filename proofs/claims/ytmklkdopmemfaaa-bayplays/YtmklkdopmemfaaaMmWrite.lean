/-
  A contract of Write. Conditions: that the member lies in memory, its lock free; few writes wait.
-/
import Derived.Test.YtmklkdopmemfaaaMmWr
namespace Go.Proofs.Ytmklkdopmemfaaa
open Go.RowKit Plain
set_option linter.unusedVariables false

set_option maxRecDepth 100000 in
set_option maxHeartbeats 2000000 in
theorem write_ok {w : World} {b bn bl : Nat} {rv : Value} {S : MS} (h : MemIn w b bn bl rv S 0 0) (i : Nat) (s : ByteArray) (hE : rcE S (i : Int) = 0) (hs : s.size = 64) (hrl : S.row.length < 1000000) :
    Calls Try.prog 46 #[.pointer (some ⟨b, 0, none⟩), .int .i64 (i : Int), .string s] w fun e w' => e = .returned (.int .i64 0) ∧ Md w w' b bn bl rv ⟨S.now.set i s, S.las, S.row ++ [(i, s)], S.dead, up S.c 1⟩ := by
  obtain ⟨_, _, hi⟩ := rc_ok hE
  have hi2 : i < S.las.length := by omega
  have hi3 : i < S.now.length := by rw [h.fine.nn]; exact hi2
  have n2 := h.fine.n2
  have HE := hid hE
  have HB := hid (built99 i)
  have hss : (s.size : Int) = 64 := by omega
  clear hE
  go_enter_defers Try.func46, Try.ntmps46
  go_wp2_with fail
  refine (lock_any h).mono ?_
  rintro e w1 ⟨rfl, h1, k1⟩
  go_wp2_with fail
  refine (reach_any h1 _).mono ?_
  rintro e w2 ⟨rfl, k2⟩
  rw [HE.out]
  have h2 := hid (h1.kp k2)
  have K2 := hid (k1.trans (k2.sp _))
  clear h h1 k1 k2
  go_wp2_with (refine wpList_store_new rfl _ _ rfl (i, z64) z64_size _ rfl rfl rfl ?_)
  intro w3 k3 V3 hl3
  have M3 := h2.out.kp k3
  obtain ⟨K, hKK⟩ : ∃ K, K = w2.heap.size := ⟨_, rfl⟩
  rw [← hKK] at V3 hl3 ⊢
  have hb2 : ∀ t, t ∈ blk b bn bl rv → t < K := fun t ht => by
    rw [hKK]
    exact h2.out.low t ht
  have V4 := V3.fill s hs
  have r4 := run_copy_str w3 3 K 1 64 s hs V3.there1
  have s4 : Kp w2 (w3.setCells K 1 (byteCells s)) := Sp.kp k3 (Sp.setCells (T := [K]) K (by simp) _ _ _ (Sp.refl _ _)) (by simp; omega)
  have M4 := h2.out.kp s4
  have S4 := K2.out.trans (s4.sp [b])
  obtain ⟨w4, hw4⟩ : ∃ w4, w4 = w3.setCells K 1 (byteCells s) := ⟨_, rfl⟩
  rw [← hw4] at V4 r4 s4 M4 S4
  have R4 := hid r4
  have HS := hid hs
  have hK2 : w.heap.size ≤ K := by rw [hKK]; exact K2.out.size
  clear hw4 r4 M3 V3 k3 hl3 hKK h2 K2 s4 hs
  go_wp2_with (refine wpList_copy_run rfl _ _ 103 9 rfl _ _ _ w4 rfl rfl R4.out ?_)
  clear R4
  have hKr : K ∉ rv.ownBlock.toList := fun hm => by
    have := hb2 K (by simp only [blk, List.mem_cons]; exact .inr (.inr (.inr hm)))
    omega
  have hKb : K ≠ b := by
    have := hb2 b (b_mem _ _ _ _)
    omega
  refine row_region M4 V4 HS.out hrl hKr hKb _ (by rfl) (by rfl) (by rfl) _ ?_
  intro N rv' w6 hr6 k6 ho7
  have hsz : ∀ g, rv'.ownBlock = some g → g ∈ blk b bn bl rv ∨ w.heap.size ≤ g := fun g hg => by
    rcases ho7 g hg with h | h
    · left; simp [blk, h]
    · right; exact Nat.le_trans S4.size h
  have M6 := M4.row k6 rv' (S.row ++ [(i, s)]) hr6 (fun g hg => by
    rcases ho7 g hg with h | h
    · exact M4.n4 g h
    · have h1 := M4.low b (b_mem _ _ _ _)
      have h2 := M4.low bn (bn_mem _ _ _ _)
      have h3 := M4.low bl (bl_mem _ _ _ _)
      exact ⟨by omega, by omega, by omega⟩) (fun p hp => by
    rcases List.mem_append.1 hp with h | h
    · exact (M4.fine.br p h).1
    · rw [List.mem_singleton.1 h]; exact hi2)
  have S6 : Sp (blk b bn bl rv) w (w6.setCell ⟨b, 12, none⟩ rv') := (S4.b.trans k6.rw).trans ((Sp.refl [b] w6).set b 12 (by simp) _).b
  obtain ⟨W, hW⟩ : ∃ W, W = w6.setCell ⟨b, 12, none⟩ rv' := ⟨_, rfl⟩
  rw [← hW] at M6 S6 ⊢
  have nW : Nw w (blk b bn bl rv) (blk b bn bl rv') := fun t ht => by
    simp only [blk, List.mem_cons] at ht
    rcases ht with rfl | rfl | rfl | ht
    · exact .inl (b_mem _ _ _ _)
    · exact .inl (bn_mem _ _ _ _)
    · exact .inl (bl_mem _ _ _ _)
    · exact hsz t (by simpa using ht)
  have r7 := run_copy_str W 3 bn (i * 64) 64 s HS.out (M6.sn.at hi3)
  have s7 : Sp [bn] W (W.setCells bn (i * 64) (byteCells s)) := Sp.setCells bn (by simp) _ _ _ (Sp.refl _ _)
  have M7 := M6.nows s7 (S.now.set i s) (M6.sn.set i hi3 s HS.out) (by rw [List.length_set]; exact M4.fine.nn)
  obtain ⟨W7, hW7⟩ : ∃ W7, W7 = W.setCells bn (i * 64) (byteCells s) := ⟨_, rfl⟩
  rw [← hW7] at r7 s7 M7
  have S7 := S6.trans s7.bn
  have cN := M6.cN
  simp only at cN
  have R7 := hid r7
  have hcnt := count_any M7 1 (by omega)
  clear hW hW7 r7 s7 M6 M4 V4 hr6 k6 S6 S4 hb2 hKr hKb ho7 hsz
  go_wp2_with (refine wpList_copy_run rfl _ _ 103 9 rfl _ _ _ W7 rfl rfl R7.out ?_)
  refine hcnt.mono ?_
  rintro e w8 ⟨⟨v, rfl⟩, h8, k8⟩
  clear hcnt R7 cN
  go_wp2_with fail
  refine leaves_cons (f := 60) (args := #[.pointer (some ⟨b, 4, none⟩)]) (by simp) (by simp [go_sem]) ?_
  refine (unlock_any h8 .returning).mono ?_
  rintro e u' w9 ⟨rfl, rfl, h9, k9⟩
  exact ⟨_, results_tmp rfl _ _ _, rfl, _, h9, (S7.trans k8.b).trans k9.b, nW⟩
set_option maxRecDepth 100000 in
theorem write_any {w : World} {b bn bl : Nat} {rv : Value} {S : MS} (h : MemIn w b bn bl rv S 0 0) (k : Int) (s : ByteArray) (hrl : S.row.length < 1000000) :
    Calls Try.prog 46 #[.pointer (some ⟨b, 0, none⟩), .int .i64 k, .string s] w fun e w' => e = .returned (.int .i64 (wrE S k s)) ∧ Md w w' b bn bl rv (wr S k s) := by
  by_cases hE : rcE S k = 0
  · by_cases hs : s.size = 64
    · have e1 : wrE S k s = 0 := by unfold wrE; rw [if_pos hE, if_pos hs]
      have e2 : wr S k s = ⟨S.now.set k.toNat s, S.las, S.row ++ [(k.toNat, s)], S.dead, up S.c 1⟩ := if_pos e1
      obtain ⟨_, h0, _⟩ := rc_ok hE
      rw [e1, e2]
      have := write_ok h k.toNat s (by rw [show ((k.toNat : Nat) : Int) = k by omega]; exact hE) hs hrl
      rw [show ((k.toNat : Nat) : Int) = k by omega] at this
      exact this
    · have e1 : wrE S k s = 4 := by unfold wrE; rw [if_pos hE, if_neg hs]
      have e2 : wr S k s = S := by unfold wr; rw [e1]; rfl
      rw [e1, e2]
      have hr := fun w1 (h1 : MemIn w1 b bn bl rv S 1 (-1073741824)) => reach_any h1 k
      rw [hE] at hr
      have hs2 : ((s.size : Int) == 64) = false := by simpa using (by omega : ¬ (s.size : Int) = 64)
      have hs3 : ¬ (s.size : Int) = 64 := by omega
      clear hE hs e1 e2
      go_enter_defers Try.func46, Try.ntmps46
      go_wp2_with fail
      refine (lock_any h).mono ?_
      rintro e w1 ⟨rfl, h1', k1⟩
      go_wp2_with fail
      refine (hr _ h1').mono ?_
      rintro e w2 ⟨rfl, k2⟩
      have h2 := h1'.kp k2
      go_wp2_with fail
      refine leaves_cons (f := 60) (args := #[.pointer (some ⟨b, 4, none⟩)]) (by simp) (by simp [go_sem]) ?_
      refine (unlock_any h2 .returning).mono ?_
      rintro e u' w4 ⟨rfl, rfl, h4, k4⟩
      exact ⟨_, results_tmp rfl _ _ _, rfl, Md.same h4 ((k1.trans (k2.sp _)).trans k4).b⟩
  · have e1 : wrE S k s = rcE S k := if_neg hE
    have e2 : wr S k s = S := by unfold wr; rw [e1, if_neg hE]
    rw [e1, e2]
    have hr := fun w1 (h1 : MemIn w1 b bn bl rv S 1 (-1073741824)) => reach_any h1 k
    obtain ⟨E, hEE⟩ : ∃ E, E = rcE S k := ⟨_, rfl⟩
    rw [← hEE] at hE hr ⊢
    have hE2 : (E == 0) = false := by simpa using hE
    clear hEE hE e1 e2
    go_enter_defers Try.func46, Try.ntmps46
    go_wp2_with fail
    refine (lock_any h).mono ?_
    rintro e w1 ⟨rfl, h1', k1⟩
    go_wp2_with fail
    refine (hr _ h1').mono ?_
    rintro e w2 ⟨rfl, k2⟩
    have h2 := h1'.kp k2
    go_wp2_with fail
    refine leaves_cons (f := 60) (args := #[.pointer (some ⟨b, 4, none⟩)]) (by simp) (by simp [go_sem]) ?_
    refine (unlock_any h2 .returning).mono ?_
    rintro e u' w4 ⟨rfl, rfl, h4, k4⟩
    exact ⟨_, results_tmp rfl _ _ _, rfl, Md.same h4 ((k1.trans (k2.sp _)).trans k4).b⟩

end Go.Proofs.Ytmklkdopmemfaaa
