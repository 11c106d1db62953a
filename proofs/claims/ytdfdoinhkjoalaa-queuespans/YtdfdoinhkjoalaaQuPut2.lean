/-
  Contract of Put. Condition: that the object lies in memory as QX says.
-/
import Derived.Test.YtdfdoinhkjoalaaQuPut
import Derived.Deep.RegionHeld3
namespace Go.Proofs.Ytdfdoinhkjoalaa
open Go.RowKit Plain
set_option linter.unusedVariables false

/-- another row laid into the object. -/
theorem QX.items {w0 w w2 : World} {a : Nat} {v v' : Value} {S : QS} {l : List It} (h1 : w.heap[a]? = some (.cells #[v, .int .i64 S.m, .int .i64 S.c] 65 (0, 0))) (h2 : w0.heap.size ≤ a) (h4 : v.ownBlock ≠ some a) (h5 : w0.heap.size ≤ w.heap.size)
    (k : Sp v.ownBlock.toList w w2) (ho : Oi w2 w0.heap.size 31 v' l) (hv : v'.ownBlock = v.ownBlock ∨ ∃ N, v'.ownBlock = some N ∧ w.heap.size ≤ N) :
    QX w0 (w2.setCell ⟨a, 0, none⟩ v') a (a :: v'.ownBlock.toList) ⟨l, S.m, S.c⟩ ∧ Sp (a :: v.ownBlock.toList) w (w2.setCell ⟨a, 0, none⟩ v') ∧ Nw w (a :: v.ownBlock.toList) (a :: v'.ownBlock.toList) := by
  have ha := heap_lt h1
  have h1' : w2.heap[a]? = some (.cells #[v, .int .i64 S.m, .int .i64 S.c] 65 (0, 0)) := (k.block a ha (fun e => h4 (by simpa using e))).trans h1
  have hv' : v'.ownBlock ≠ some a := by
    rcases hv with hv | ⟨N, hv, hN⟩
    · rw [hv]; exact h4
    · rw [hv]; intro e; cases e; omega
  have k2 : Sp [a] w2 (w2.setCell ⟨a, 0, none⟩ v') := (Sp.refl _ _).set a _ (by simp) _
  refine ⟨⟨v', rfl, heap_set h1' 0 _, h2, ho.sp k2 (fun g hg e => hv' (by simp at e; rw [← e]; exact hg)), hv', Nat.le_trans h5 (Nat.le_trans k.size k2.size)⟩, ?_, ?_⟩
  · exact (k.mono (fun t ht => List.mem_cons_of_mem _ ht)).trans (k2.mono (fun t ht => by simp at ht; subst ht; simp))
  · intro t ht
    rcases List.mem_cons.1 ht with rfl | ht
    · exact .inl (by simp)
    · rcases hv with hv | ⟨N, hv, hN⟩
      · rw [hv] at ht; exact .inl (List.mem_cons_of_mem _ ht)
      · rw [hv] at ht; simp at ht; subst ht; exact .inr hN

set_option maxRecDepth 100000 in
theorem qput_no1 (a : Nat) (b : Int) (d : ByteArray) (w : World) (hb : b < 0 ∨ 1099511627776 ≤ b) : Calls Try.prog 13 #[.pointer (some ⟨a, 0, none⟩), .int .i64 b, .string d] w fun e w' => e = .returned (.int .i64 3) ∧ Kp w w' := by
  rcases hb with hb | hb
  · have h1 : decide (b < 0) = true := by simp [hb]
    go_enter Try.func13, Try.ntmps13
    go_wp2
    go_ret
    exact ⟨rfl, Kp.refl w⟩
  · have h1 : decide (b < 0) = false := by simp; omega
    have h2 : decide (1099511627776 ≤ b) = true := by simp [hb]
    go_enter Try.func13, Try.ntmps13
    go_wp2
    go_ret
    exact ⟨rfl, Kp.refl w⟩
set_option maxRecDepth 100000 in
theorem qput_no2 (a : Nat) (b : Int) (d : ByteArray) (w : World) (hb : ¬ (b < 0 ∨ 1099511627776 ≤ b)) (hd : d.size ≠ 64) : Calls Try.prog 13 #[.pointer (some ⟨a, 0, none⟩), .int .i64 b, .string d] w fun e w' => e = .returned (.int .i64 4) ∧ Kp w w' := by
  have h1 : decide (b < 0) = false := by simp; omega
  have h2 : decide (1099511627776 ≤ b) = false := by simp; omega
  have h3 : ¬ ((d.size : Int) = 64) := by omega
  clear hb hd
  go_enter Try.func13, Try.ntmps13
  go_wp2
  go_ret
  exact ⟨rfl, Kp.refl w⟩

set_option maxRecDepth 100000 in
set_option maxHeartbeats 2000000 in
theorem qput_hit {w0 w : World} {a : Nat} {T : List Nat} {S : QS} (h : QX w0 w a T S) (hq : Qg S) (b : Int) (d : ByteArray) (hb : ¬ (b < 0 ∨ 1099511627776 ≤ b)) (hd : d.size = 64) (hh : hsI S.L b = true) : Calls Try.prog 13 #[.pointer (some ⟨a, 0, none⟩), .int .i64 b, .string d] w fun e w' => e = .returned (.int .i64 0) ∧ Nz QX w0 w w' a T ⟨putL b d S.c S.L, S.m, S.c + 1⟩ := by
  have h1 : decide (b < 0) = false := by simp; omega
  have h2 : decide (1099511627776 ≤ b) = false := by simp; omega
  have h3 : (d.size : Int) = 64 := by omega
  have hF := find_any h hq.sr hq.l b
  have HH : Hid (QX w0 w a T S ∧ Qg S ∧ hsI S.L b = true) := ⟨h, hq, hh⟩
  have hc0 := hq.c0
  have hcm := hq.cm
  clear hb hd h hq hh
  go_enter Try.func13, Try.ntmps13
  go_wp2_with fail
  refine hF.mono ?_; rintro e w1 ⟨i, rfl, hfd, k1⟩
  obtain ⟨h, hq, hh⟩ := HH.out
  have ha : isAt S.L b i = true := by rw [is_hs hq.sr hfd]; exact hh
  obtain ⟨A, y, B, e1, e2, e3, e4, e5, e6⟩ := fd_hit hq.sr hfd ha
  have hil : i < S.L.length := by rw [e1]; simp; omega
  obtain ⟨g, cap, hT, hga, hle, hcp, c0, c2, d0, d1, d2, f1, f2⟩ := (h.kept k1).at hil
  have HX : Hid (QX w0 w1 a T S) := h.kept k1
  have HE : Hid (S.L = A ++ y :: B ∧ A.length = i ∧ y.b = b ∧ (∀ x ∈ A, x.b < b)) := ⟨e1, e2, e4, e5⟩
  have fa := f1 2
  have fg := f2 (i * 3 + 1)
  have hd1 : ∀ v, (w1.setCell ⟨g, i * 3 + 1, none⟩ v).cell? ⟨a, 2, none⟩ = some (.int .i64 S.c) := fun v => by
    rw [World.cell?_setCell_other _ _ _ _ (by intro e; have := congrArg Addr.block e; simp only at this; exact hga (by omega))]; exact c2
  have hd2 : ∀ v, (w1.setCell ⟨g, i * 3 + 1, none⟩ v).frozen? ⟨a, 2, none⟩ = false := fun v => by
    rw [World.frozen?_setCell]; exact fa
  rw [ha]
  obtain ⟨n, hn⟩ : ∃ n, n = S.L.length := ⟨_, rfl⟩
  obtain ⟨c, hc⟩ : ∃ c, c = S.c := ⟨_, rfl⟩
  obtain ⟨z, hz⟩ : ∃ z, z = (S.L.getD i iz).d := ⟨_, rfl⟩
  have HC : Hid (c = S.c ∧ n = S.L.length) := ⟨hc, hn⟩
  rw [← hn] at c0 hil hle
  rw [← hz] at d1
  rw [← hc] at c2 hd1 hc0 hcm
  clear h hq hh HH hF hfd ha e1 e2 e3 e4 e5 e6 d0 d2 f1 f2 hn hc hz
  have hi2 : (i : Int) < (n : Int) := by omega
  go_wp2
  go_ret
  refine ⟨rfl, ?_⟩
  have HX1 := HX.out
  have HE1 := HE.out
  have HC1 := HC.out
  rw [HC1.2] at c0
  obtain ⟨q1, q2⟩ := HX1.data HE1.1 d c0
  rw [HE1.2.1] at q1 q2
  obtain ⟨q3, q4⟩ := q1.clock (c + 1)
  refine ⟨T, ?_, (k1.sp _).trans (q2.trans q4), Nw.refl _ _⟩
  rw [HE1.1, put_hit d _ HE1.2.2.2 HE1.2.2.1, ← HC1.1]
  have e : y.b = b := HE1.2.2.1
  rw [e] at q3
  exact q3

set_option maxRecDepth 100000 in
set_option maxHeartbeats 2000000 in
theorem qput_full {w0 w : World} {a : Nat} {T : List Nat} {S : QS} (h : QX w0 w a T S) (hq : Qg S) (b : Int) (d : ByteArray) (hb : ¬ (b < 0 ∨ 1099511627776 ≤ b)) (hd : d.size = 64) (hh : hsI S.L b = false) (hfl : S.m ≤ S.L.length) : Calls Try.prog 13 #[.pointer (some ⟨a, 0, none⟩), .int .i64 b, .string d] w fun e w' => e = .returned (.int .i64 10) ∧ Kp w w' := by
  have h1 : decide (b < 0) = false := by simp; omega
  have h2 : decide (1099511627776 ≤ b) = false := by simp; omega
  have h3 : (d.size : Int) = 64 := by omega
  have hF := find_any h hq.sr hq.l b
  have hU : ∀ w', Kp w w' → Calls Try.prog 25 #[.pointer (some ⟨a, 0, none⟩)] w' fun e w2 => e = .returned (.bool true) ∧ Kp w' w2 := fun w' k => by
    have := qfull_any (h.kept k) hq.l hq.m
    unfold qful at this
    rwa [decide_eq_true hfl] at this
  have HH : Hid (Sr S.L ∧ hsI S.L b = false) := ⟨hq.sr, hh⟩
  clear hb hd h hq hh hfl
  go_enter Try.func13, Try.ntmps13
  go_wp2_with fail
  refine hF.mono ?_; rintro e w1 ⟨i, rfl, hfd, k1⟩
  have ha : isAt S.L b i = false := by rw [is_hs HH.out.1 hfd]; exact HH.out.2
  rw [ha]
  clear ha hF hfd
  go_wp2_with fail
  refine (hU w1 k1).mono ?_; rintro e w2 ⟨rfl, k2⟩
  clear hU
  go_wp2
  go_ret
  exact ⟨rfl, k1.trans k2⟩

end Go.Proofs.Ytdfdoinhkjoalaa
