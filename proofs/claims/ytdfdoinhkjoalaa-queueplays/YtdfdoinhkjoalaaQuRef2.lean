/-
  Contract of the document's Put. Condition: that the object lies in memory as RX says.
-/
import Derived.Test.YtdfdoinhkjoalaaQuRef
namespace Go.Proofs.Ytdfdoinhkjoalaa
open Go.RowKit Plain
set_option linter.unusedVariables false

theorem RX.data {w0 w : World} {a : Nat} {T : List Nat} {S : QS} (h : RX w0 w a T S) {A B : List It} {y : It} (hL : S.L = A ++ y :: B) (d : ByteArray) {g cap : Nat} (hg : w.cell? ⟨a, 1, none⟩ = some (.slice (some ⟨g, 0, none⟩) S.L.length cap)) : RX w0 (w.setCell ⟨g, A.length * 3 + 1, none⟩ (.string d)) a T ⟨A ++ ⟨y.b, d, y.g⟩ :: B, S.m, S.c⟩ ∧ Sp T w (w.setCell ⟨g, A.length * 3 + 1, none⟩ (.string d)) := by
  obtain ⟨v, rfl, h1, h2, h3, h4, h5⟩ := h
  have c0 := cell_of h1 1
  rw [hg] at c0
  obtain rfl : Value.slice (some ⟨g, 0, none⟩) S.L.length cap = v := by simpa using c0
  have hag : a ≠ g := fun e => h4 (by rw [e]; rfl)
  rcases h3.row with ⟨h, _⟩ | ⟨g', cap', cs, he, hb, R, hle, hcm, ht⟩
  · cases h
  · obtain ⟨rfl, rfl⟩ : g = g' ∧ cap = cap' := by simpa using he
    have hlen : (A ++ (⟨y.b, d, y.g⟩ : It) :: B).length = S.L.length := by rw [hL]; simp
    have k : Sp [g] w (w.setCell ⟨g, A.length * 3 + 1, none⟩ (.string d)) := (Sp.refl _ _).set g _ (by simp) _
    refine ⟨⟨_, rfl, (k.block a (heap_lt h1) (by simpa using hag)).trans h1, h2, ?_, h4, Nat.le_trans h5 k.size⟩, k.mono (fun t ht => by simp at ht; subst ht; simp [Value.ownBlock])⟩
    refine Oi.of (R.set _ _) hb (by show (A ++ (⟨y.b, d, y.g⟩ : It) :: B).length ≤ cap; rw [hlen]; exact hle) hcm ?_ _ hlen.symm
    show List.take ((A ++ (⟨y.b, d, y.g⟩ : It) :: B).length * 3) _ = iv (A ++ ⟨y.b, d, y.g⟩ :: B)
    rw [hlen, List.take_set, ht, hL, iv_app, iv_app, List.set_append_right _ _ (by rw [iv_len]; omega), iv_len, show A.length * 3 + 1 - A.length * 3 = 1 by omega]
    rfl
theorem RX.clock {w0 w : World} {a : Nat} {T : List Nat} {S : QS} (h : RX w0 w a T S) (c : Int) : RX w0 (w.setCell ⟨a, 2, none⟩ (.int .i64 c)) a T ⟨S.L, S.m, c⟩ ∧ Sp T w (w.setCell ⟨a, 2, none⟩ (.int .i64 c)) := by
  obtain ⟨v, rfl, h1, h2, h3, h4, h5⟩ := h
  have k : Sp [a] w (w.setCell ⟨a, 2, none⟩ (.int .i64 c)) := (Sp.refl _ _).set a _ (by simp) _
  exact ⟨⟨v, rfl, heap_set h1 2 _, h2, h3.sp k (fun g hg e => h4 (by simp at e; rw [← e]; exact hg)), h4, Nat.le_trans h5 k.size⟩, k.mono (fun t ht => by simp at ht; subst ht; simp)⟩
/-- another row laid into the object. -/
theorem RX.items {w0 w w2 : World} {a : Nat} {v v' : Value} {S : QS} {l : List It} (h1 : w.heap[a]? = some (.cells #[.int .i64 S.m, v, .int .i64 S.c] 46 (0, 0))) (h2 : w0.heap.size ≤ a) (h4 : v.ownBlock ≠ some a) (h5 : w0.heap.size ≤ w.heap.size)
    (k : Sp v.ownBlock.toList w w2) (ho : Oi w2 w0.heap.size 34 v' l) (hv : v'.ownBlock = v.ownBlock ∨ (∀ N, v'.ownBlock = some N → w.heap.size ≤ N)) :
    RX w0 (w2.setCell ⟨a, 1, none⟩ v') a (a :: v'.ownBlock.toList) ⟨l, S.m, S.c⟩ ∧ Sp (a :: v.ownBlock.toList) w (w2.setCell ⟨a, 1, none⟩ v') ∧ Nw w (a :: v.ownBlock.toList) (a :: v'.ownBlock.toList) := by
  have ha := heap_lt h1
  have h1' : w2.heap[a]? = some (.cells #[.int .i64 S.m, v, .int .i64 S.c] 46 (0, 0)) := (k.block a ha (fun e => h4 (by simpa using e))).trans h1
  have hv' : v'.ownBlock ≠ some a := by
    rcases hv with hv | hv
    · rw [hv]; exact h4
    · intro e; have := hv a e; omega
  have k2 : Sp [a] w2 (w2.setCell ⟨a, 1, none⟩ v') := (Sp.refl _ _).set a _ (by simp) _
  refine ⟨⟨v', rfl, heap_set h1' 1 _, h2, ho.sp k2 (fun g hg e => hv' (by simp at e; rw [← e]; exact hg)), hv', Nat.le_trans h5 (Nat.le_trans k.size k2.size)⟩, ?_, ?_⟩
  · exact (k.mono (fun t ht => List.mem_cons_of_mem _ ht)).trans (k2.mono (fun t ht => by simp at ht; subst ht; simp))
  · intro t ht
    rcases List.mem_cons.1 ht with rfl | ht
    · exact .inl (by simp)
    · rcases hv with hv | hv
      · rw [hv] at ht; exact .inl (List.mem_cons_of_mem _ ht)
      · exact .inr (hv t (by simpa using ht))
theorem fi_hs {l : List It} {b z : Int} (h : Fi l b z) : (z < 0 ∧ hsI l b = false ∧ z = -1) ∨ (0 ≤ z ∧ hsI l b = true) := by
  rcases h with ⟨rfl, h⟩ | ⟨A, y, B, rfl, rfl, hy, _⟩
  · refine .inl ⟨by omega, ?_, rfl⟩
    unfold hsI
    rw [List.any_eq_false]
    intro x hx
    simpa using h x hx
  · exact .inr ⟨by omega, hs_hit hy⟩

set_option maxRecDepth 100000 in
theorem rput_no1 (a : Nat) (b : Int) (d : ByteArray) (w : World) (hb : b < 0 ∨ 1099511627776 ≤ b) : Calls Try.prog 15 #[.pointer (some ⟨a, 0, none⟩), .int .i64 b, .string d] w fun e w' => e = .returned (.int .i64 3) ∧ Kp w w' := by
  rcases hb with hb | hb
  · have h1 : decide (b < 0) = true := by simp [hb]
    go_enter Try.func15, Try.ntmps15
    go_wp2
    go_ret
    exact ⟨rfl, Kp.refl w⟩
  · have h1 : decide (b < 0) = false := by simp; omega
    have h2 : decide (1099511627776 ≤ b) = true := by simp [hb]
    go_enter Try.func15, Try.ntmps15
    go_wp2
    go_ret
    exact ⟨rfl, Kp.refl w⟩
set_option maxRecDepth 100000 in
theorem rput_no2 (a : Nat) (b : Int) (d : ByteArray) (w : World) (hb : ¬ (b < 0 ∨ 1099511627776 ≤ b)) (hd : d.size ≠ 64) : Calls Try.prog 15 #[.pointer (some ⟨a, 0, none⟩), .int .i64 b, .string d] w fun e w' => e = .returned (.int .i64 4) ∧ Kp w w' := by
  have h1 : decide (b < 0) = false := by simp; omega
  have h2 : decide (1099511627776 ≤ b) = false := by simp; omega
  have h3 : ¬ ((d.size : Int) = 64) := by omega
  clear hb hd
  go_enter Try.func15, Try.ntmps15
  go_wp2
  go_ret
  exact ⟨rfl, Kp.refl w⟩
set_option maxRecDepth 100000 in
set_option maxHeartbeats 2000000 in
theorem rput_hit {w0 w : World} {a : Nat} {T : List Nat} {S : QS} (h : RX w0 w a T S) (hl : S.L.length ≤ 1000) (hc0 : 0 ≤ S.c) (hcm : S.c ≤ 1000000000) (b : Int) (d : ByteArray) (hb : ¬ (b < 0 ∨ 1099511627776 ≤ b)) (hd : d.size = 64) (hh : hsI S.L b = true) : Calls Try.prog 15 #[.pointer (some ⟨a, 0, none⟩), .int .i64 b, .string d] w fun e w' => e = .returned (.int .i64 0) ∧ Nz RX w0 w w' a T ⟨rpL b d S.c S.L, S.m, S.c + 1⟩ := by
  have h1 : decide (b < 0) = false := by simp; omega
  have h2 : decide (1099511627776 ≤ b) = false := by simp; omega
  have h3 : (d.size : Int) = 64 := by omega
  have hF := rfind_any h hl b
  have HH : Hid (RX w0 w a T S ∧ hsI S.L b = true) := ⟨h, hh⟩
  clear hb hd h hh
  go_enter Try.func15, Try.ntmps15
  go_wp2_with fail
  refine hF.mono ?_; rintro e w1 ⟨z, rfl, hfi, k1⟩
  obtain ⟨h, hh⟩ := HH.out
  rcases hfi with ⟨_, hno⟩ | ⟨A, y, B, e1, rfl, e4, e5⟩
  · have : hsI S.L b = false := by unfold hsI; rw [List.any_eq_false]; intro x hx; simpa using hno x hx
    rw [this] at hh; cases hh
  · have hil : A.length < S.L.length := by rw [e1]; simp
    obtain ⟨p, g, cap, hp, hle, hcp, c0, c1, c2, f1, hcl⟩ := (h.kept k1).cells
    obtain ⟨rfl, hT, hga, f2⟩ := hp (by omega)
    have d1 := (hcl A.length hil).2.1
    have HX : Hid (RX w0 w1 a T S) := h.kept k1
    have HE : Hid (S.L = A ++ y :: B ∧ y.b = b ∧ (∀ x ∈ A, x.b ≠ b)) := ⟨e1, e4, e5⟩
    obtain ⟨i, hi⟩ : ∃ i, i = A.length := ⟨_, rfl⟩
    rw [← hi] at hil d1 ⊢
    have HI : Hid (i = A.length) := hi
    have fa := f1 2
    have fg := f2 (i * 3 + 1)
    have hd1 : ∀ v, (w1.setCell ⟨g, i * 3 + 1, none⟩ v).cell? ⟨a, 2, none⟩ = some (.int .i64 S.c) := fun v => by
      rw [World.cell?_setCell_other _ _ _ _ (by intro e; have := congrArg Addr.block e; simp only at this; exact hga (by omega))]; exact c2
    have hd2 : ∀ v, (w1.setCell ⟨g, i * 3 + 1, none⟩ v).frozen? ⟨a, 2, none⟩ = false := fun v => by
      rw [World.frozen?_setCell]; exact fa
    obtain ⟨n, hn⟩ : ∃ n, n = S.L.length := ⟨_, rfl⟩
    obtain ⟨c, hc⟩ : ∃ c, c = S.c := ⟨_, rfl⟩
    obtain ⟨u, hu⟩ : ∃ u, u = (S.L.getD i iz).d := ⟨_, rfl⟩
    have HC : Hid (c = S.c ∧ n = S.L.length) := ⟨hc, hn⟩
    rw [← hn] at c1 hil hle
    rw [← hu] at d1
    rw [← hc] at c2 hd1 hc0 hcm
    clear h hh HH hF e1 e4 e5 f1 f2 hn hc hu hcl hi hl hT c0
    have hi2 : (i : Int) < (n : Int) := by omega
    have hi0 : decide ((i : Int) < 0) = false := by simp
    go_wp2_with fail
    go_quiet (fail)
    go_wp2
    go_ret
    refine ⟨rfl, ?_⟩
    have HX1 := HX.out.kept ((Kp.refl w1).drewN 1)
    have HE1 := HE.out
    have HC1 := HC.out
    rw [HC1.2] at c1
    obtain ⟨q1, q2⟩ := RX.data (w := _) (HX.out.kept ((Kp.refl w1).drewN _)) HE1.1 d (by exact c1)
    rw [← HI.out] at q1 q2
    obtain ⟨q3, q4⟩ := q1.clock (c + 1)
    refine ⟨T, ?_, ((k1.trans ((Kp.refl w1).drewN _)).sp _).trans (q2.trans q4), Nw.refl _ _⟩
    rw [HE1.1, rp_hit d _ HE1.2.2 HE1.2.1, ← HC1.1]
    have e : y.b = b := HE1.2.1
    rw [e] at q3
    exact q3
set_option maxRecDepth 100000 in
set_option maxHeartbeats 2000000 in
theorem rput_full {w0 w : World} {a : Nat} {T : List Nat} {S : QS} (h : RX w0 w a T S) (hl : S.L.length ≤ 1000) (b : Int) (d : ByteArray) (hb : ¬ (b < 0 ∨ 1099511627776 ≤ b)) (hd : d.size = 64) (hh : hsI S.L b = false) (hfl : S.m ≤ S.L.length) : Calls Try.prog 15 #[.pointer (some ⟨a, 0, none⟩), .int .i64 b, .string d] w fun e w' => e = .returned (.int .i64 10) ∧ Kp w w' := by
  have h1 : decide (b < 0) = false := by simp; omega
  have h2 : decide (1099511627776 ≤ b) = false := by simp; omega
  have h3 : (d.size : Int) = 64 := by omega
  have hF := rfind_any h hl b
  have HH : Hid (RX w0 w a T S ∧ hsI S.L b = false) := ⟨h, hh⟩
  have hfz : decide ((S.m : Int) ≤ (S.L.length : Int)) = true := by simp; omega
  clear hb hd h hh
  go_enter Try.func15, Try.ntmps15
  go_wp2_with fail
  refine hF.mono ?_; rintro e w1 ⟨z, rfl, hfi, k1⟩
  obtain ⟨h, hh⟩ := HH.out
  rcases fi_hs hfi with ⟨_, _, rfl⟩ | ⟨_, h5⟩
  · obtain ⟨p, g, cap, hp, hle, hcp, c0, c1, c2, f1, hcl⟩ := (h.kept k1).cells
    obtain ⟨n, hn⟩ : ∃ n, n = S.L.length := ⟨_, rfl⟩
    obtain ⟨m, hm⟩ : ∃ m, m = S.m := ⟨_, rfl⟩
    rw [← hn] at c1 hle hl hfz hfl
    rw [← hm] at c0 hfz hfl
    clear h hh HH hF hfi hn hm hcl f1 c2 hp
    go_wp2_with fail
    go_quiet (fail)
    go_wp2
    go_ret
    exact ⟨rfl, k1.trans ((Kp.refl w1).drewN _)⟩
  · rw [h5] at hh; cases hh

set_option maxRecDepth 100000 in
set_option maxHeartbeats 4000000 in
theorem rput_new {w0 w : World} {a : Nat} {T : List Nat} {S : QS} (h : RX w0 w a T S) (hl : S.L.length ≤ 1000) (hc0 : 0 ≤ S.c) (hcm : S.c ≤ 1000000000) (b : Int) (d : ByteArray) (hb : ¬ (b < 0 ∨ 1099511627776 ≤ b)) (hd : d.size = 64) (hh : hsI S.L b = false) (hfl : ¬ S.m ≤ S.L.length) : Calls Try.prog 15 #[.pointer (some ⟨a, 0, none⟩), .int .i64 b, .string d] w fun e w' => e = .returned (.int .i64 0) ∧ Nz RX w0 w w' a T ⟨rpL b d S.c S.L, S.m, S.c + 1⟩ := by
  have h1 : decide (b < 0) = false := by simp; omega
  have h2 : decide (1099511627776 ≤ b) = false := by simp; omega
  have h3 : (d.size : Int) = 64 := by omega
  have hF := rfind_any h hl b
  have HH : Hid (RX w0 w a T S ∧ hsI S.L b = false) := ⟨h, hh⟩
  have hfz : decide ((S.m : Int) ≤ (S.L.length : Int)) = false := by simp; omega
  clear hb hd h hh
  go_enter Try.func15, Try.ntmps15
  go_wp2_with fail
  refine hF.mono ?_; rintro e w1 ⟨z, rfl, hfi, k1⟩
  obtain ⟨h, hh⟩ := HH.out
  rcases hfi with ⟨rfl, hno⟩ | ⟨A, y, B, e1, rfl, e4, e5⟩
  · have HNO : Hid (∀ x ∈ S.L, x.b ≠ b) := hno
    obtain ⟨p, g, cap, hp, hle, hcp, c0, c1, c2, f1, hcl⟩ := (h.kept k1).cells
    obtain ⟨n, hn⟩ : ∃ n, n = S.L.length := ⟨_, rfl⟩
    obtain ⟨m, hm⟩ : ∃ m, m = S.m := ⟨_, rfl⟩
    have HX : Hid (RX w0 w1 a T S ∧ n = S.L.length ∧ m = S.m) := ⟨h.kept k1, hn, hm⟩
    have c1h := hid c1
    rw [← hn] at c1 hle hl hfz hfl
    rw [← hm] at c0 hfz hfl
    clear h hh HH hF hn hm hcl f1 c2 hp hno
    go_wp2_with fail
    go_quiet (fail)
    rename_i nq
    obtain ⟨w2, hw2⟩ : ∃ w2, w2 = w1.drewN nq := ⟨_, rfl⟩
    rw [← hw2]
    have k2 : Kp w1 w2 := by rw [hw2]; exact (Kp.refl w1).drewN _
    have K2 : Hid (Kp w w2) := k1.trans k2
    obtain ⟨x, en, em⟩ := HX.out
    obtain ⟨v, hT, q1, q2, q3, q4, q5⟩ := x.kept k2
    have hvv : v = .slice p S.L.length cap := by
      have := cell_of q1 1
      rw [k2.held c1h.out] at this
      simpa using this.symm
    obtain ⟨c, hc⟩ : ∃ c, c = S.c := ⟨_, rfl⟩
    have c1a : w2.cell? ⟨a, 1, none⟩ = some v := cell_of q1 1
    have c2a : w2.cell? ⟨a, 2, none⟩ = some (.int .i64 S.c) := cell_of q1 2
    have fa := frozen_of q1 1
    obtain ⟨W, hW⟩ : ∃ W, W = w2.drew.alloc (.cells (iv [⟨b, d, c⟩]).toArray 34) := ⟨_, rfl⟩
    have kW : Kp w2 W := by rw [hW]; exact ((Kp.refl w2).drew).alloc _
    have hit : ItIn W (.slice (some ⟨w2.heap.size, 0, none⟩) 1 1) [⟨b, d, c⟩] := by rw [hW]; exact ItIn.lit1 w2.drew ⟨b, d, c⟩ _ _ rfl
    obtain ⟨v', w4, hrun, o1, o2, o3⟩ := run_append_it (w := W) 44 44 w0.heap.size 34 elyR v S.L (q3.kept kW) (.slice (some ⟨w2.heap.size, 0, none⟩) 1 1) [⟨b, d, c⟩] hit (by simp; omega) (Nat.le_trans q5 kW.size)
    have q1' : W.heap[a]? = _ := (kW.block a (heap_lt q1)).trans q1
    have s4 := grown_sp o2
    have hh1 : w4.heap[a]? = _ := (s4.block a (heap_lt q1') (fun e => q4 (by simpa using e))).trans q1'
    obtain ⟨p', n', c', hvs⟩ : ∃ p' n' c', v' = .slice p' n' c' := by
      rcases o1.row with ⟨rfl, _⟩ | ⟨g, cap, cs, rfl, _⟩ <;> exact ⟨_, _, _, rfl⟩
    have d0 : w4.cell? ⟨a, 1, none⟩ = some v := cell_of hh1 1
    have f0 : w4.frozen? ⟨a, 1, none⟩ = false := frozen_of hh1 1
    have hi := RX.items (S := S) q1' q2 q4 (Nat.le_trans q5 kW.size) s4 o1 (o3.elim .inl (fun h => .inr (fun N hN => by rw [h] at hN; cases hN; exact Nat.le_refl _)))
    rw [hvs] at hi hrun
    obtain ⟨T5, hT5⟩ : ∃ T5, T5 = a :: (Value.slice p' n' c').ownBlock.toList := ⟨_, rfl⟩
    rw [← hT5, ← hT] at hi
    have HI : Hid (RX w0 (w4.setCell ⟨a, 1, none⟩ (.slice p' n' c')) a T5 ⟨S.L ++ [⟨b, d, c⟩], S.m, S.c⟩ ∧ Sp T W (w4.setCell ⟨a, 1, none⟩ (.slice p' n' c')) ∧ Nw W T T5 ∧ Kp w W ∧ c = S.c) := ⟨hi.1, hi.2.1, hi.2.2, K2.out.trans kW, hc⟩
    rw [hW] at hrun
    have e0 : (w2.drew.alloc (.cells (iv [⟨b, d, c⟩]).toArray 34)) = w2.drew.alloc (.cells #[.int .i64 b, .string d, .int .i64 c] 34) := rfl
    rw [e0] at hrun
    rw [hvv] at hrun c1a d0
    rw [← en] at hrun c1a d0
    rw [← hc] at c2a hc0 hcm
    have c1b : (w2.drew.alloc (.cells #[.int .i64 b, .string d, .int .i64 c] 34)).cell? ⟨a, 1, none⟩ = some (.slice p n cap) := (((Kp.refl w2).drew).alloc _).held c1a
    have c1c : (w2.alloc (.cells #[.int .i64 b, .string d, .int .i64 c] 34)).cell? ⟨a, 1, none⟩ = some (.slice p n cap) := ((Kp.refl w2).alloc _).held c1a
    have mixed : Try.prog.follows .mixedOrders = true := by kernel_rfl
    clear hw2 k2 x hT q1 q2 q3 q4 q5 hvv hc hW kW hit o1 o2 o3 q1' s4 hh1 hvs hi hT5 e0 en em c1 c0 K2 k1 HX c1h
    go_wp2_with fail
    go_region_law (refine step_append_run rfl _ _ 44 rfl _ _ rfl rfl hrun ?_)
    all_goals
      obtain ⟨i1, i2, i3, i4, i5⟩ := HI.out
      obtain ⟨W5, hW5⟩ : ∃ W5, W5 = w4.setCell ⟨a, 1, none⟩ (.slice p' n' c') := ⟨_, rfl⟩
      rw [← hW5] at i1 i2 ⊢
      obtain ⟨_, _, _, _, _, _, _, _, y2o, yf, _⟩ := i1.cells
      have y2 : W5.cell? ⟨a, 2, none⟩ = some (.int .i64 c) := by rw [i5]; exact y2o
      clear y2o
      have yf2 := yf 2
      have HE : Hid (RX w0 W5 a T5 ⟨S.L ++ [⟨b, d, c⟩], S.m, S.c⟩ ∧ Sp T W W5 ∧ Nw W T T5 ∧ Kp w W ∧ c = S.c) := ⟨i1, i2, i3, i4, i5⟩
      clear i1 i2 i3 i4 i5 hW5 yf HI hrun c1a c2a fa c1b c1c d0 f0
      go_wp2
      go_ret
      refine ⟨rfl, ?_⟩
      obtain ⟨i1, i2, i3, i4, i5⟩ := HE.out
      obtain ⟨q3, q4⟩ := i1.clock (c + 1)
      have s2 : Sp T w W5 := (i4.sp _).trans i2
      have hN : Nw w T T5 := (Nw.refl w T).trans i3 i4.size
      refine ⟨T5, ?_, s2.then q4 hN, hN⟩
      rw [rp_miss d _ HNO.out, ← i5]
      exact q3
  · rw [e1, hs_hit e4] at hh; cases hh

theorem rput_any {w0 w : World} {a : Nat} {T : List Nat} {S : QS} (h : RX w0 w a T S) (hl : S.L.length ≤ 1000) (hc0 : 0 ≤ S.c) (hcm : S.c ≤ 1000000000) (b : Int) (d : ByteArray) : Calls Try.prog 15 #[.pointer (some ⟨a, 0, none⟩), .int .i64 b, .string d] w fun e w' => e = .returned (.int .i64 (ptE S b d)) ∧ Nz RX w0 w w' a T (rpS S b d) := by
  by_cases hb : b < 0 ∨ 1099511627776 ≤ b
  · have he : ptE S b d = 3 := by unfold ptE; rw [if_pos hb]
    refine (rput_no1 a b d w hb).mono ?_
    rintro e w' ⟨rfl, k⟩
    refine ⟨by rw [he], ?_⟩
    unfold rpS; rw [he, if_neg (by decide)]
    exact Nz.of OL.rx h k
  · by_cases hd : d.size = 64
    · cases hh : hsI S.L b with
      | true =>
        have he : ptE S b d = 0 := by unfold ptE; rw [if_neg hb, if_neg (by simpa using hd), if_pos hh]
        refine (rput_hit h hl hc0 hcm b d hb hd hh).mono ?_
        rintro e w' ⟨rfl, k⟩
        refine ⟨by rw [he], ?_⟩
        unfold rpS; rw [if_pos he]
        exact k
      | false =>
        by_cases hf : S.m ≤ S.L.length
        · have he : ptE S b d = 10 := by unfold ptE; rw [if_neg hb, if_neg (by simpa using hd), if_neg (by rw [hh]; decide), if_pos hf]
          refine (rput_full h hl b d hb hd hh hf).mono ?_
          rintro e w' ⟨rfl, k⟩
          refine ⟨by rw [he], ?_⟩
          unfold rpS; rw [he, if_neg (by decide)]
          exact Nz.of OL.rx h k
        · have he : ptE S b d = 0 := by unfold ptE; rw [if_neg hb, if_neg (by simpa using hd), if_neg (by rw [hh]; decide), if_neg hf]
          refine (rput_new h hl hc0 hcm b d hb hd hh hf).mono ?_
          rintro e w' ⟨rfl, k⟩
          refine ⟨by rw [he], ?_⟩
          unfold rpS; rw [if_pos he]
          exact k
    · have he : ptE S b d = 4 := by unfold ptE; rw [if_neg hb, if_pos hd]
      refine (rput_no2 a b d w hb hd).mono ?_
      rintro e w' ⟨rfl, k⟩
      refine ⟨by rw [he], ?_⟩
      unfold rpS; rw [he, if_neg (by decide)]
      exact Nz.of OL.rx h k

end Go.Proofs.Ytdfdoinhkjoalaa
