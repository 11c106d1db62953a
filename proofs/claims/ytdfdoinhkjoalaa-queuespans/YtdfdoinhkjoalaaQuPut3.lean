/-
  Contract of Put where the block is new. Condition: that the object lies in memory as QX says.
-/
import Derived.Test.YtdfdoinhkjoalaaQuPut2
namespace Go.Proofs.Ytdfdoinhkjoalaa
open Go.RowKit Plain
set_option linter.unusedVariables false

set_option maxRecDepth 100000 in
set_option maxHeartbeats 4000000 in
theorem qput_new {w0 w : World} {a : Nat} {T : List Nat} {S : QS} (h : QX w0 w a T S) (hq : Qg S) (b : Int) (d : ByteArray) (hb : ¬ (b < 0 ∨ 1099511627776 ≤ b)) (hd : d.size = 64) (hh : hsI S.L b = false) (hfl : ¬ S.m ≤ S.L.length) : Calls Try.prog 13 #[.pointer (some ⟨a, 0, none⟩), .int .i64 b, .string d] w fun e w' => e = .returned (.int .i64 0) ∧ Nz QX w0 w w' a T ⟨putL b d S.c S.L, S.m, S.c + 1⟩ := by
  have h1 : decide (b < 0) = false := by simp; omega
  have h2 : decide (1099511627776 ≤ b) = false := by simp; omega
  have h3 : (d.size : Int) = 64 := by omega
  have hF := find_any h hq.sr hq.l b
  have hU : ∀ w', Kp w w' → Calls Try.prog 25 #[.pointer (some ⟨a, 0, none⟩)] w' fun e w2 => e = .returned (.bool false) ∧ Kp w' w2 := fun w' k => by
    have := qfull_any (h.kept k) hq.l hq.m
    unfold qful at this
    rwa [decide_eq_false hfl] at this
  have HH : Hid (QX w0 w a T S ∧ Qg S ∧ hsI S.L b = false) := ⟨h, hq, hh⟩
  have hc0 := hq.c0
  have hcm := hq.cm
  clear hb hd h hq hh hfl
  go_enter Try.func13, Try.ntmps13
  go_wp2_with fail
  refine hF.mono ?_; rintro e w1 ⟨i, rfl, hfd, k1⟩
  have ha : isAt S.L b i = false := by rw [is_hs HH.out.2.1.sr hfd]; exact HH.out.2.2
  rw [ha]
  have HFD : Hid (Fd S.L b i ∧ isAt S.L b i = false) := ⟨hfd, ha⟩
  clear ha hF hfd
  go_wp2_with fail
  refine (hU w1 k1).mono ?_; rintro e w2 ⟨rfl, k2⟩
  clear hU
  have k3 := k1.trans k2
  obtain ⟨h, hq, hh⟩ := HH.out
  obtain ⟨v, hT, q1, q2, q3, q4, q5⟩ := h.kept k3
  obtain ⟨c, hc⟩ : ∃ c, c = S.c := ⟨_, rfl⟩
  have c0 : w2.cell? ⟨a, 0, none⟩ = some v := cell_of q1 0
  have c2 : w2.cell? ⟨a, 2, none⟩ = some (.int .i64 S.c) := cell_of q1 2
  have fa := frozen_of q1
  -- the new item's own block
  obtain ⟨W, hW⟩ : ∃ W, W = w2.drew.alloc (.cells (iv [⟨b, noS, c⟩]).toArray 31) := ⟨_, rfl⟩
  have V : Rr W w2.heap.size 31 1 (iv [⟨b, noS, c⟩]) := by rw [hW]; exact Rr.new w2.drew _ _ 1 (iv_len _) _ rfl
  have kW : Kp w2 W := by rw [hW]; exact ((Kp.refl w2).drew).alloc _
  have q3' := q3.kept kW
  have q1' : W.heap[a]? = _ := (kW.block a (heap_lt q1)).trans q1
  have hI := insert_any w0.heap.size v S.L ⟨b, noS, c⟩ i w2.heap.size W q3' (by have := HFD.out.1.1; omega) hq.l V (fun e => by have := (q3.lt _ e).2; omega) (Nat.le_trans q5 kW.size)
  have hI2 : Calls Try.prog 30 #[v, .int .i64 i, .slice (some ⟨w2.heap.size, 0, none⟩) 1 1] W fun e w' => ∃ v' p' n' c', v' = .slice p' n' c' ∧ e = .returned (.slice p' n' c') ∧ w'.cell? ⟨a, 0, none⟩ = some v ∧ w'.frozen? ⟨a, 0, none⟩ = false ∧ Hid (Oi w' w0.heap.size 31 v' (ins S.L i ⟨b, noS, c⟩) ∧ Sp v.ownBlock.toList W w' ∧ (v'.ownBlock = v.ownBlock ∨ ∃ N, v'.ownBlock = some N ∧ W.heap.size ≤ N)) := by
    refine hI.mono ?_
    rintro e w' ⟨v', rfl, o, s, hv⟩
    have hn : a ∉ v.ownBlock.toList := fun e => q4 (by simpa using e)
    have hh1 : w'.heap[a]? = _ := (s.block a (heap_lt q1') hn).trans q1'
    obtain ⟨p', n', c', hvs⟩ : ∃ p' n' c', v' = .slice p' n' c' := by
      rcases o.row with ⟨rfl, _⟩ | ⟨g, cap, cs, rfl, _⟩ <;> exact ⟨_, _, _, rfl⟩
    exact ⟨v', p', n', c', hvs, by rw [hvs], cell_of hh1 0, frozen_of hh1 0, o, s, hv.elim .inl (fun h => .inr ⟨_, h, Nat.le_refl _⟩)⟩
  have HQ : Hid (T = a :: v.ownBlock.toList ∧ W.heap[a]? = some (.cells #[v, .int .i64 S.m, .int .i64 S.c] 65 (0, 0)) ∧ w0.heap.size ≤ a ∧ v.ownBlock ≠ some a ∧ w0.heap.size ≤ W.heap.size ∧ Kp w W ∧ Qg S ∧ c = S.c) := ⟨hT, q1', q2, q4, Nat.le_trans q5 kW.size, k3.trans kW, hq, hc⟩
  rw [hW] at hI2
  have HW : Hid (W = w2.drew.alloc (.cells (iv [⟨b, noS, c⟩]).toArray 31)) := hW
  rw [← hc] at c2 hc0 hcm
  have fa0 := fa 0
  have c0' : (w2.drew.alloc (.cells #[.int .i64 b, .string ⟨#[]⟩, .int .i64 c] 31)).cell? ⟨a, 0, none⟩ = some v := (((Kp.refl w2).drew).alloc _).held c0
  have c0'' : (w2.alloc (.cells #[.int .i64 b, .string ⟨#[]⟩, .int .i64 c] 31)).cell? ⟨a, 0, none⟩ = some v := ((Kp.refl w2).alloc _).held c0
  have e0 : (w2.drew.alloc (.cells (iv [⟨b, noS, c⟩]).toArray 31)) = w2.drew.alloc (.cells #[.int .i64 b, .string ⟨#[]⟩, .int .i64 c] 31) := rfl
  rw [e0] at hI2
  clear e0 hW V kW q3 q3' q1 q1' hI hT q2 q4 q5 h hq hh k3 fa hc HH k1 k2
  go_wp2_with fail
  go_region_with (go_at_call 30; refine hI2.mono ?_; rintro e w4 ⟨v', p', n', c', hv', rfl, d0, f0, HO⟩)
  all_goals
    obtain ⟨ho, hs, hvv⟩ := HO.out
    obtain ⟨r1, r2, r3, r4, r5, r6, r7, r8⟩ := HQ.out
    have hs' : Sp v.ownBlock.toList W w4 := by rw [HW.out]; exact hs
    have hvv' : v'.ownBlock = v.ownBlock ∨ ∃ N, v'.ownBlock = some N ∧ W.heap.size ≤ N := by rw [HW.out]; exact hvv
    have HI0 := QX.items r2 r3 r4 r5 hs' ho hvv'
    rw [hv'] at HI0
    obtain ⟨T5, hT5⟩ : ∃ T5, T5 = a :: (Value.slice p' n' c').ownBlock.toList := ⟨_, rfl⟩
    rw [← hT5, ← r1] at HI0
    obtain ⟨W5, hW5⟩ : ∃ W5, W5 = w4.setCell ⟨a, 0, none⟩ (.slice p' n' c') := ⟨_, rfl⟩
    rw [← hW5] at HI0 ⊢
    obtain ⟨s1, s2, s3⟩ := HI0
    obtain ⟨A, B, e1, e2, e3, e4⟩ := fd_miss HFD.out.1 r7.sr HFD.out.2
    have ei : ins S.L i ⟨b, noS, c⟩ = A ++ ⟨b, noS, c⟩ :: B := by rw [e1]; unfold ins; rw [← e2, List.take_left, List.drop_left]
    rw [ei] at s1
    have hil : i < (A ++ (⟨b, noS, c⟩ : It) :: B).length := by simp; omega
    obtain ⟨g, cap, hT6, hga, hle, hcp, x0, x2, y0, y1, y2, f1, f2⟩ := s1.at (i := i) hil
    have HS : Hid (QX w0 W5 a T5 ⟨A ++ ⟨b, noS, c⟩ :: B, S.m, S.c⟩ ∧ Sp T W W5 ∧ Nw W T T5 ∧ S.L = A ++ B ∧ A.length = i ∧ (∀ x ∈ A, x.b < b) ∧ (∀ x ∈ B, b < x.b) ∧ Kp w W ∧ c = S.c) := ⟨s1, s2, s3, e1, e2, e3, e4, r6, r8⟩
    have fa := f1 2
    have fg := f2 (i * 3 + 1)
    have x2' : W5.cell? ⟨a, 2, none⟩ = some (.int .i64 c) := by rw [r8]; exact x2
    have hd1 : ∀ u, (W5.setCell ⟨g, i * 3 + 1, none⟩ u).cell? ⟨a, 2, none⟩ = some (.int .i64 c) := fun u => by
      rw [World.cell?_setCell_other _ _ _ _ (by intro e; have := congrArg Addr.block e; simp only at this; exact hga (by omega))]; exact x2'
    have hd2 : ∀ u, (W5.setCell ⟨g, i * 3 + 1, none⟩ u).frozen? ⟨a, 2, none⟩ = false := fun u => by
      rw [World.frozen?_setCell]; exact fa
    obtain ⟨n, hn⟩ : ∃ n, n = (A ++ (⟨b, noS, c⟩ : It) :: B).length := ⟨_, rfl⟩
    obtain ⟨z, hz⟩ : ∃ z, z = ((A ++ (⟨b, noS, c⟩ : It) :: B).getD i iz).d := ⟨_, rfl⟩
    have HC : Hid (n = (A ++ (⟨b, noS, c⟩ : It) :: B).length) := hn
    have x0' : W5.cell? ⟨a, 0, none⟩ = some (.slice (some ⟨g, 0, none⟩) n cap) := by rw [hn]; exact x0
    have y1' : W5.cell? ⟨g, i * 3 + 1, none⟩ = some (.string z) := by rw [hz]; exact y1
    have hle' : n ≤ cap := by rw [hn]; exact hle
    have hi2 : (i : Int) < (n : Int) := by rw [hn]; omega
    clear hs' hvv' ho hs hvv r1 r2 r3 r4 r5 r6 r7 r8 HO HQ HFD HW hI2 c0 c2 fa0 c0' c0'' d0 f0 hT5 hW5 s1 s2 s3 e1 e2 e3 e4 ei hil hT6 x0 x2 y0 y1 y2 f1 f2 hn hz hle hv'
    go_wp2
    go_ret
    refine ⟨rfl, ?_⟩
    obtain ⟨s1, s2, s3, e1, e2, e3, e4, kW, hc⟩ := HS.out
    rw [HC.out] at x0'
    obtain ⟨q1, q2⟩ := s1.data (A := A) (B := B) (y := ⟨b, noS, c⟩) rfl d x0'
    rw [e2] at q1 q2
    obtain ⟨q3, q4⟩ := q1.clock (c + 1)
    have s2' : Sp T w W5 := (kW.sp _).trans s2
    have hN : Nw w T T5 := (Nw.refl w T).trans s3 kW.size
    refine ⟨T5, ?_, s2'.then (q2.trans q4) hN, hN⟩
    rw [e1, put_miss d _ e3 e4, ← hc]
    exact q3

theorem qput_any {w0 w : World} {a : Nat} {T : List Nat} {S : QS} (h : QX w0 w a T S) (hq : Qg S) (b : Int) (d : ByteArray) : Calls Try.prog 13 #[.pointer (some ⟨a, 0, none⟩), .int .i64 b, .string d] w fun e w' => e = .returned (.int .i64 (ptE S b d)) ∧ Nz QX w0 w w' a T (ptS S b d) := by
  by_cases hb : b < 0 ∨ 1099511627776 ≤ b
  · have he : ptE S b d = 3 := by unfold ptE; rw [if_pos hb]
    refine (qput_no1 a b d w hb).mono ?_
    rintro e w' ⟨rfl, k⟩
    refine ⟨by rw [he], ?_⟩
    unfold ptS; rw [he, if_neg (by decide)]
    exact Nz.of OL.qx h k
  · by_cases hd : d.size = 64
    · cases hh : hsI S.L b with
      | true =>
        have he : ptE S b d = 0 := by unfold ptE; rw [if_neg hb, if_neg (by simpa using hd), if_pos hh]
        refine (qput_hit h hq b d hb hd hh).mono ?_
        rintro e w' ⟨rfl, k⟩
        refine ⟨by rw [he], ?_⟩
        unfold ptS; rw [if_pos he]
        exact k
      | false =>
        by_cases hf : S.m ≤ S.L.length
        · have he : ptE S b d = 10 := by unfold ptE; rw [if_neg hb, if_neg (by simpa using hd), if_neg (by rw [hh]; decide), if_pos hf]
          refine (qput_full h hq b d hb hd hh hf).mono ?_
          rintro e w' ⟨rfl, k⟩
          refine ⟨by rw [he], ?_⟩
          unfold ptS; rw [he, if_neg (by decide)]
          exact Nz.of OL.qx h k
        · have he : ptE S b d = 0 := by unfold ptE; rw [if_neg hb, if_neg (by simpa using hd), if_neg (by rw [hh]; decide), if_neg hf]
          refine (qput_new h hq b d hb hd hh hf).mono ?_
          rintro e w' ⟨rfl, k⟩
          refine ⟨by rw [he], ?_⟩
          unfold ptS; rw [if_pos he]
          exact k
    · have he : ptE S b d = 4 := by unfold ptE; rw [if_neg hb, if_pos hd]
      refine (qput_no2 a b d w hb hd).mono ?_
      rintro e w' ⟨rfl, k⟩
      refine ⟨by rw [he], ?_⟩
      unfold ptS; rw [he, if_neg (by decide)]
      exact Nz.of OL.qx h k

end Go.Proofs.Ytdfdoinhkjoalaa
