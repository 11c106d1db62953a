/-
  Contract of the document's Runs: the runs of a set, number by number. No condition.
-/
import Derived.Test.YtekbhgcnobiplaaDoorMkRefL
import Derived.RegionTactic
import Derived.BigRegion
namespace Go.Proofs.YtekbhgcnobiplaaDoor
open Go.RowKit Plain Go.BigFrame
set_option linter.unusedVariables false

theorem pv_set : ∀ (l : List (Nat × Nat)) (a n m : Nat), (pv (l ++ [(a, n)])).set (2 * l.length + 1) (.int .i64 ((m : Nat) : Int)) = pv (l ++ [(a, m)])
  | [], a, n, m => rfl
  | p :: l, a, n, m => by
    have := pv_set l a n m
    rw [show 2 * (p :: l).length + 1 = (2 * l.length + 1) + 1 + 1 by simp only [List.length_cons]; omega]
    simp only [List.cons_append, pv, List.set_cons_succ, this]
def bfB (f : Nat → Bool) (k : Nat) : Bool := decide (0 < k) && f (k - 1)
theorem bf_succ (f : Nat → Bool) (k : Nat) : bfB f (k + 1) = f k := by unfold bfB; simp
theorem build_one (a : Int) (w : World) : (Instr.build 47 #[(0, .int .i64 a), (1, .int .i64 1)]).run Tryd.prog w = .ok (.agg #[.int .i64 a, .int .i64 1]) w := run_build w 47 _ _ (by kernel_rfl)
set_option maxRecDepth 100000 in
set_option maxHeartbeats 8000000 in
theorem rruns_any (f : Nat → Bool) (w : World) : Calls Tryd.prog 29 #[SV f] w fun e w' => ∃ v, e = .returned v ∧ PairsIn w' v (rn 256 f) ∧ Kp w w' := by
  obtain ⟨i0, hi, hz0, hz1, hz2⟩ := info_parts info_pair
  obtain ⟨w0, hw0⟩ : ∃ w0, w0 = w.alloc (.cells (w4 (wd f)) 24) := ⟨_, rfl⟩
  have a1 : A4 w0 w.heap.size (wd f) := by rw [hw0]; exact A4.new w _ _
  have k0 : Kp w w0 := by rw [hw0]; exact (Kp.refl w).alloc _
  have HW : Hid (w0 = w.alloc (.cells (w4 (wd f)) 24)) := hw0
  clear hw0
  have hH := rhas_in f
  unfold SV at hH ⊢
  go_enter Tryd.func29, Tryd.ntmps29
  go_wp2
  rw [show w.alloc (.cells #[.int .u64 ((wd f 0 : Nat) : Int), .int .u64 ((wd f 1 : Nat) : Int), .int .u64 ((wd f 2 : Nat) : Int), .int .u64 ((wd f 3 : Nat) : Int)] 24) = w0 from HW.out.symm]
  clear HW
  go_loopw [3, 4, 5] (fun v b i wr => ∃ k : Nat, k ≤ 256 ∧ i = .int .i64 k ∧ b = .bool (bfB f k) ∧ wr.ownsRow (w.heap.size + 1) 47 2 v (rn k f).length (pv (rn k f)) ∧ A4 wr w.heap.size (wd f) ∧ Kp w wr) (fun _ _ i _ => 256 - (intOf i).toNat)
  case atStart => exact ⟨0, by omega, rfl, rfl, World.ownsRow_nil _ _ _ _, a1, k0⟩
  case round =>
    clear a1 k0
    obtain ⟨k, hk, rfl, rfl, hown, a5, hK⟩ := hrel
    by_cases hlt : k < 256
    · obtain ⟨c0, c1, c2, c3⟩ := a5.cells
      have hN := hH k hlt wr
      have hx := rn_len k f
      have HB : Hid (bfB f (k + 1) = f k) := bf_succ f k
      have HZ : Hid (∀ W, Kp wr W → W.ownsRow (w.heap.size + 1) 47 2 u3 (rn k f).length (pv (rn k f)) ∧ A4 W w.heap.size (wd f) ∧ Kp w W) := fun W hw => ⟨hw.own hown, a5.kept hw, hK.trans hw⟩
      clear hown a5 hK hH
      cases hf : f k with
      | false =>
        have HL : Hid (rn (k + 1) f = rn k f) := if_neg (by rw [hf]; simp)
        rw [hf] at hN HB
        clear hf
        go_wp2_with fail
        refine hN.mono ?_; rintro e W ⟨rfl, kW⟩
        clear hN
        go_wp2
        go_roundw
        case rel => exact ⟨k + 1, by omega, by go_num, by rw [HB.out], by rw [HL.out]; exact (HZ.out W kW).1, (HZ.out W kW).2⟩
        case measure => simp [intOf]; omega
      | true =>
        cases hb : bfB f k with
        | false =>
          have HL : Hid (rn (k + 1) f = rn k f ++ [(k, 1)]) := by
            show _ = _
            rw [rn_succ, if_pos hf, if_neg]
            rintro ⟨h1, h2⟩
            unfold bfB at hb
            rw [decide_eq_true h1, h2] at hb
            cases hb
          have hbo := build_one (k : Int)
          rw [hf] at hN HB
          clear hf hb
          go_wp2_with fail
          refine hN.mono ?_; rintro e W ⟨rfl, kW⟩
          obtain ⟨hown, a5, hK⟩ := HZ.out W kW
          have hbl := a5.lt
          clear hN HZ c0 c1 c2 c3 kW
          go_wp2_with (at_builtin; refine wpList_append_own _ rfl _ _ 44 rfl (w.heap.size + 1) 47 i0 (.agg #[.int .i64 0, .int .i64 0]) 2 16 Tryd.underlying44 hi hz0 hz1 hz2 rfl (by decide) _ _ _ rfl (hown.alloc _) ⟨W.heap.size, 0, none⟩ 1 1 [.int .i64 (k : Int), .int .i64 1] rfl rfl ?c1 ?c2 ?c3 ?c4 ?c5 ?_)
          case c1 =>
            intro j u hj
            match j, hj with
            | 0, hj => simp at hj; subst hj; simp [Addr.add]
            | 1, hj => simp at hj; subst hj; simp [Addr.add]
          case c2 => intro u hu; simp at hu; rcases hu with rfl | rfl <;> rfl
          case c3 => unfold maxLen; omega
          case c4 => omega
          case c5 => simp; omega
          · intro v' w5 hown5 hgrow5 _
            have K5 : Kp w w5 := (hK.alloc _).grown hgrow5 (fun k hk => by have := own_lt hown k hk; omega)
            have a6 := (a5.alloc _).grown hgrow5 (fun k hk => by have := own_lt hown k hk; omega)
            have hown6 : w5.ownsRow (w.heap.size + 1) 47 2 v' (rn (k + 1) f).length (pv (rn (k + 1) f)) := by
              rw [HL.out, List.length_append, pv_app]
              exact hown5
            clear hown5 hown hgrow5 a5 hK hbo
            go_wp2
            go_roundw
            case rel => exact ⟨k + 1, by omega, by go_num, by rw [HB.out], hown6, a6, K5⟩
            case measure => simp [intOf]; omega
        | true =>
          have hb2 : 0 < k ∧ f (k - 1) = true := by
            unfold bfB at hb
            rw [Bool.and_eq_true, decide_eq_true_eq] at hb
            exact hb
          obtain ⟨l, a, e1, ha, _, _, _⟩ := rn_end k f hb2.1 hb2.2
          have HL : Hid (rn (k + 1) f = l ++ [(a, k - a + 1)]) := by
            show _ = _
            rw [rn_succ, if_pos hf, if_pos hb2, e1, bump_app]
          rw [e1] at HZ hx
          rw [hf] at hN HB
          clear hf hb hb2 e1
          go_wp2_with fail
          refine hN.mono ?_; rintro e W ⟨rfl, kW⟩
          obtain ⟨hown, a5, hK⟩ := HZ.out W kW
          rw [List.length_append, List.length_singleton] at hown hx
          have hbl := a5.lt
          obtain ⟨m, hm⟩ : ∃ m, m = l.length := ⟨_, rfl⟩
          clear hN HZ c0 c1 c2 c3 kW
          rcases hown.2 with ⟨_, h0⟩ | ⟨g, cap, cur, hv, hbase, hgb, hn, hmx, hcs, htake⟩
          · omega
          · subst hv
            have cc := hown.cellAt (2 * l.length + 1) (by omega)
            have cc2 := (pv_at (l ++ [(a, k - a)]) l.length (by simp)).2
            rw [cc2] at cc
            rw [show (l ++ [(a, k - a)]).getD l.length (0, 0) = (a, k - a) by simp] at cc
            have hst := hown.stored (2 * l.length + 1) (.int .i64 ((k - a + 1 : Nat) : Int))
            rw [pv_set] at hst
            have zz : ∀ o, W.frozen? ⟨g, o, none⟩ = false := fun o => by simp [World.frozen?, hgb]
            rw [← hm] at hx cc hst hn ⊢
            obtain ⟨p, hp⟩ : ∃ p, p = k - a := ⟨_, rfl⟩
            have hp2 : p ≤ 256 := by omega
            rw [show 2 * m + 1 = m * 2 + 1 by omega] at cc hst
            simp only [← hp] at cc hst
            have HL2 : Hid (rn (k + 1) f = l ++ [(a, p + 1)]) := by show _ = _; rw [HL.out, hp]
            have HM : Hid (m + 1 = (l ++ [(a, p + 1)]).length) := by show _ = _; rw [hm]; simp
            have hgm : w.heap.size + 1 ≤ g := hbase
            have HR : Hid ((W.drew.setCell ⟨g, m * 2 + 1, none⟩ (.int .i64 ((p + 1 : Nat) : Int))).ownsRow (w.heap.size + 1) 47 2 (.slice (some ⟨g, 0, none⟩) (m + 1) cap) (m + 1) (pv (l ++ [(a, p + 1)])) ∧ A4 (W.drew.setCell ⟨g, m * 2 + 1, none⟩ (.int .i64 ((p + 1 : Nat) : Int))) w.heap.size (wd f) ∧ Kp w (W.drew.setCell ⟨g, m * 2 + 1, none⟩ (.int .i64 ((p + 1 : Nat) : Int)))) :=
              ⟨by
                have := ((Kp.refl W).drew.own hown).stored (2 * l.length + 1) (.int .i64 ((p + 1 : Nat) : Int))
                rw [pv_set, ← hm, show 2 * m + 1 = m * 2 + 1 by omega] at this
                exact this.1, a5.drew.far (by omega) _ _, hK.drew.set (by omega) _ _⟩
            have hlen : (((m + 1 : Nat) : Int) - 1) = (m : Int) := by omega
            unfold maxLen at hmx
            clear hst hown hgb hcs htake hK a5 HL cc2 hp hm hbase
            go_wp2_with fail
            go_region
            all_goals (go_wp2_with fail; go_roundw)
            all_goals first | exact ⟨k + 1, by omega, by go_num, by rw [HB.out], by rw [HL2.out, ← HM.out]; exact HR.out.1, HR.out.2⟩ | (simp [intOf]; omega)
    · obtain rfl : k = 256 := by omega
      have HI := PairsIn.owned hown
      clear hown
      go_wp2
      go_ret
      exact ⟨_, rfl, HI, hK⟩

end Go.Proofs.YtekbhgcnobiplaaDoor
