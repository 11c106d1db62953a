/-
  Contracts of label's Newest and of the document's. Conditions: that the sectors lie in memory.
-/
import Derived.Test.YtobpgfnmhpgkeaaLbGet
import Derived.Test.YtobpgfnmhpgkeaaLbRGet
namespace Go.Proofs.Ytobpgfnmhpgkeaa
open Go.RowKit Plain
set_option linter.unusedVariables false

theorem hid3 {p : Prop} (h : p) : Hid p := h
/-- a label L at block X, a label as it was made at block R; L's lists lie above both. -/
structure Nw (w : World) (R X : Nat) (L : LB) (u1 u2 : Value) (wr : World) : Prop where
  l0 : Lc wr R 0 0 0 (.slice none 0 0) (.slice none 0 0)
  f0 : ∀ o, wr.frozen? ⟨R, o, none⟩ = false
  lx : Lc wr X L.n L.s L.ep u1 u2
  fx : ∀ o, wr.frozen? ⟨X, o, none⟩ = false
  n1 : Nn (X + 1) wr u1 L.sts
  n2 : Nn (X + 1) wr u2 L.mks
  k : Kp w wr
  hX : X < wr.heap.size
  hR : R < X
  hw : w.heap.size ≤ R
theorem Nw.kept {w : World} {R X : Nat} {L : LB} {u1 u2 : Value} {wr w' : World} (h : Nw w R X L u1 u2 wr) (k : Kp wr w') : Nw w R X L u1 u2 w' :=
  ⟨h.l0.kept k, fun o => (Below.frozen (p := ⟨R, o, none⟩) k (Nat.lt_trans h.hR h.hX)).trans (h.f0 o), h.lx.kept k, fun o => (Below.frozen (p := ⟨X, o, none⟩) k h.hX).trans (h.fx o), h.n1.kept k, h.n2.kept k, h.k.trans k, Nat.lt_of_lt_of_le h.hX k.size, h.hR, h.hw⟩
theorem Nn.mono {b c : Nat} {w : World} {v : Value} {l : List Int} (h : Nn b w v l) (hc : c ≤ b) : Nn c w v l := by
  obtain ⟨a, g, off, cap, h1, h2, h3⟩ := h
  exact ⟨a, g, off, cap, h1, h2, fun h => Nat.le_trans hc (h3 h)⟩
/-- another label is stored in its place. -/
theorem Nw.put {w : World} {R X : Nat} {L L2 : LB} {u1 u2 v1 v2 : Value} {wr : World} (h : Nw w R X L u1 u2 wr) (m1 : Nn (X + 1) wr v1 L2.sts) (m2 : Nn (X + 1) wr v2 L2.mks) : Nw w R X L2 v1 v2 (over wr X L2.n L2.s L2.ep v1 v2) := by
  have t := (Trd.refl X wr).over L2.n L2.s L2.ep v1 v2
  have hz := t.size
  have hX := h.hX
  have hR := h.hR
  have fz : ∀ b o, (over wr X L2.n L2.s L2.ep v1 v2).frozen? ⟨b, o, none⟩ = wr.frozen? ⟨b, o, none⟩ := fun b o => by
    show World.frozen? (World.setCell (World.setCell (World.setCell (World.setCell (World.setCell wr _ _) _ _) _ _) _ _) _ _) _ = _
    rw [World.frozen?_setCell, World.frozen?_setCell, World.frozen?_setCell, World.frozen?_setCell, World.frozen?_setCell]
  exact ⟨t.lc (by omega) h.l0, fun o => (fz R o).trans (h.f0 o), h.lx.over, fun o => (fz X o).trans (h.fx o), m1.trd t (by omega), m2.trd t (by omega), t.kp w h.k (by have := h.hw; omega), by omega, h.hR, h.hw⟩
set_option maxRecDepth 100000 in
set_option maxHeartbeats 4000000 in
theorem newest_any (v : Value) (l : List ByteArray) (w : World) (h : StrsIn w v l) (hs : ∀ i, i < l.length → (l.getD i noS).size ≤ 9223372036854775807) : Calls Try.prog 24 #[v] w fun e w' => ∃ u1 u2, e = .returned (.tuple #[lV (nwL l l.length).n (nwL l l.length).s (nwL l l.length).ep u1 u2, .bool (nwF l l.length)]) ∧ Nl w' u1 (nwL l l.length).sts ∧ Nl w' u2 (nwL l l.length).mks ∧ Kp w w' := by
  have hsh : ∃ a b off cap, v = .slice a l.length cap ∧ l.length ≤ cap ∧ cap ≤ 9223372036854775807 ∧ (0 < l.length → a = some ⟨b, off, none⟩) ∧ ∀ i, i < l.length → w.cell? ⟨b, off + i, none⟩ = some (.string (l.getD i noS)) := by
    cases h with
    | empty a cap h => unfold maxLen at h; exact ⟨a, 0, 0, cap, rfl, by simp, by omega, fun h => absurd h (by simp), fun i hi => absurd hi (by simp)⟩
    | some b off cap l h0 h1 h2 hc => unfold maxLen at h2; exact ⟨_, b, off, cap, rfl, h1, by omega, fun _ => rfl, hc⟩
  obtain ⟨a, b, off, cap, rfl, hle, hmx, hsome, hc⟩ := hsh
  obtain ⟨N, hN⟩ : ∃ N, N = l.length := ⟨_, rfl⟩
  rw [← hN] at hle hsome hc hs ⊢
  have HC := hid3 hc
  have HSz := hid3 hs
  have hNm : N ≤ 9223372036854775807 := by omega
  have l0 : Nw w w.heap.size (w.heap.size + 1) (nwL l 0) (.slice none 0 0) (.slice none 0 0) ((w.alloc (.cells #[.int .i64 0, .int .i64 0, .int .i64 0, .slice none 0 0, .slice none 0 0] 29)).alloc (.cells #[.int .i64 0, .int .i64 0, .int .i64 0, .slice none 0 0, .slice none 0 0] 29)) := by
    have q1 := (Lc.new w 0 0 0 (.slice none 0 0) (.slice none 0 0) 29).kept ((Kp.refl _).alloc (.cells #[.int .i64 0, .int .i64 0, .int .i64 0, .slice none 0 0, .slice none 0 0] 29))
    have q2 := Lc.new (w.alloc (.cells #[.int .i64 0, .int .i64 0, .int .i64 0, .slice none 0 0, .slice none 0 0] 29)) 0 0 0 (.slice none 0 0) (.slice none 0 0) 29
    rw [asz] at q2
    refine ⟨q1, fun o => ?_, q2, fun o => ?_, Nn.nil _ _, Nn.nil _ _, ((Kp.refl w).alloc _).alloc _, by simp, by omega, Nat.le_refl _⟩
    · exact (Below.frozen (p := ⟨w.heap.size, o, none⟩) ((Kp.refl _).alloc _) (by simp)).trans (by simp)
    · have : (w.alloc (.cells #[.int .i64 0, .int .i64 0, .int .i64 0, .slice none 0 0, .slice none 0 0] 29)).heap.size = w.heap.size + 1 := by simp
      rw [← this]; simp
  have H0 := hid3 l0
  clear hc hs hN h l0
  go_enter Try.func24, Try.ntmps24
  go_wp2
  go_loopw [5, 13] (fun f i wr => ∃ (k : Nat) (F : Bool) (u1 u2 : Value), k ≤ N ∧ i = .int .i64 k ∧ f = .bool F ∧ Hid (F = nwF l k ∧ Nw w w.heap.size (w.heap.size + 1) (nwL l k) u1 u2 wr)) (fun _ i _ => N - (intOf i).toNat)
  case atStart => exact ⟨0, false, _, _, Nat.zero_le _, rfl, rfl, rfl, H0.out⟩
  case round =>
    clear H0
    obtain ⟨k, F, u1, u2, hk, rfl, rfl, HK⟩ := hrel
    have hn1 := HK.out.2.n1.nl.shape
    have hn2 := HK.out.2.n2.nl.shape
    obtain ⟨x1, y1, z1, rfl⟩ := hn1
    obtain ⟨x2, y2, z2, rfl⟩ := hn2
    by_cases hlt : k < N
    · obtain rfl := hsome (by omega)
      have c0 := HK.out.2.k.held (HC.out k hlt)
      have hsz := HSz.out k hlt
      have hYes := @nw_yes l k
      have hNo := @nw_no l k
      have hG := get_new (l.getD k noS) hsz wr
      have hEp := @gtL_ep (l.getD k noS)
      have hNone := nw_none l k
      obtain ⟨y, ey⟩ : ∃ y, y = l.getD k noS := ⟨_, rfl⟩
      rw [← ey] at c0 hsz hYes hNo hG hEp
      obtain ⟨GE, eGE⟩ : ∃ x, x = gtE y := ⟨_, rfl⟩
      rw [← eGE] at hYes hNo hG hEp
      obtain ⟨G, eG⟩ : ∃ x, x = gtL y := ⟨_, rfl⟩
      rw [← eG] at hYes hNo hG hEp
      obtain ⟨T, eT⟩ : ∃ x, x = nwL l k := ⟨_, rfl⟩
      rw [← eT] at hYes hNo hNone HK
      have HYes := hid3 hYes
      have HNo := hid3 hNo
      have HEp := hid3 hEp
      have HNone := hid3 hNone
      clear ey eGE eG eT hYes hNo hEp hNone
      obtain ⟨gn, gs, ge, gst, gmk⟩ := G
      obtain ⟨tn, ts, te, tst, tmk⟩ := T
      simp only at hG
      unfold lV at hG
      go_wp2_with fail
      refine hG.mono ?_; rintro e w2 ⟨v1, v2, rfl, m1, m2, k2⟩
      obtain ⟨f1, f2, f3, rfl⟩ := m1.nl.shape
      obtain ⟨f4, f5, f6, rfl⟩ := m2.nl.shape
      have l2 := Lc.new w2 gn gs ge (.slice f1 f2 f3) (.slice f4 f5 f6) 29
      have k3 : Kp w2 (w2.alloc (.cells #[.int .i64 gn, .int .i64 gs, .int .i64 ge, .slice f1 f2 f3, .slice f4 f5 f6] 29)) := (Kp.refl w2).alloc _
      have HX := HK.out.2.hX
      have HM := hid3 (And.intro (m1.mono (c := w.heap.size + 1 + 1) (by omega)) (m2.mono (c := w.heap.size + 1 + 1) (by omega)))
      obtain ⟨w3, hw3⟩ : ∃ V, V = w2.alloc (.cells #[.int .i64 gn, .int .i64 gs, .int .i64 ge, .slice f1 f2 f3, .slice f4 f5 f6] 29) := ⟨_, rfl⟩
      have HW3 := hid3 hw3
      have HR3 := hid3 (HK.out.2.kept (k2.trans k3))
      have HF := hid3 HK.out.1
      have HR2 := hid3 (HK.out.2.kept k2)
      rw [← hw3] at l2 k3 HR3
      have hlX : w.heap.size + 1 < w2.heap.size := HR2.out.hX
      obtain ⟨e0, e1, e2, e3, e4⟩ := HR2.out.lx
      have zx := HR2.out.fx
      clear hG m1 m2 k2 k3 hw3 c0 HX HK hsz
      simp only at e0 e1 e2 e3 e4
      by_cases q1 : GE = 0
      · have b1 : (GE == 0) = true := beq_iff_eq.2 q1
        by_cases q2 : te < ge
        · obtain ⟨r1, r2⟩ := HYes.out ⟨q1, q2⟩
          have HOV := hid3 ((HR2.out.put (L2 := ⟨gn, gs, ge, gst, gmk⟩) HM.out.1 HM.out.2).kept ((Kp.refl _).alloc (.cells #[.int .i64 gn, .int .i64 gs, .int .i64 ge, .slice f1 f2 f3, .slice f4 f5 f6] 29)))
          have HFin : Hid (true = nwF l (k + 1) ∧ Nw w w.heap.size (w.heap.size + 1) (nwL l (k + 1)) (.slice f1 f2 f3) (.slice f4 f5 f6) ((over w2 (w.heap.size + 1) gn gs ge (.slice f1 f2 f3) (.slice f4 f5 f6)).alloc (.cells #[.int .i64 gn, .int .i64 gs, .int .i64 ge, .slice f1 f2 f3, .slice f4 f5 f6] 29))) := by rw [r1, r2]; exact ⟨rfl, HOV.out⟩
          clear q1 r1 r2
          have hgt : decide (te < ge) = true := decide_eq_true q2
          go_wp2
          go_roundw
          case rel => exact ⟨k + 1, _, _, _, by omega, by go_num, rfl, HFin⟩
          case measure => simp [intOf]; omega
        · obtain ⟨r1, r2⟩ := HNo.out (fun h => q2 h.2)
          have HFin : Hid (F = nwF l (k + 1) ∧ Nw w w.heap.size (w.heap.size + 1) (nwL l (k + 1)) (.slice x1 y1 z1) (.slice x2 y2 z2) w3) := by rw [r1, r2]; exact ⟨HF.out, HR3.out⟩
          rw [HW3.out] at HFin
          clear r1 r2
          have hgt : decide (te < ge) = false := decide_eq_false q2
          go_wp2
          go_roundw
          case rel => exact ⟨k + 1, _, _, _, by omega, by go_num, rfl, HFin⟩
          case measure => simp [intOf]; omega
      · have b1 : (GE == 0) = false := beq_eq_false_iff_ne.2 q1
        obtain ⟨r1, r2⟩ := HNo.out (fun h => q1 h.1)
        have HFin : Hid (F = nwF l (k + 1) ∧ Nw w w.heap.size (w.heap.size + 1) (nwL l (k + 1)) (.slice x1 y1 z1) (.slice x2 y2 z2) w3) := by rw [r1, r2]; exact ⟨HF.out, HR3.out⟩
        rw [HW3.out] at HFin
        clear q1 r1 r2
        go_wp2
        go_roundw
        case rel => exact ⟨k + 1, _, _, _, by omega, by go_num, rfl, HFin⟩
        case measure => simp [intOf]; omega
    · obtain rfl : N = k := by omega
      have HR := hid3 HK.out.2
      have HF := hid3 HK.out.1
      obtain ⟨T, eT⟩ : ∃ x, x = nwL l N := ⟨_, rfl⟩
      rw [← eT] at HR
      obtain ⟨tn, ts, te, tst, tmk⟩ := T
      have HTT := hid3 eT
      obtain ⟨e0, e1, e2, e3, e4⟩ := HR.out.lx
      obtain ⟨c0, c1, c2, c3, c4⟩ := HR.out.l0
      have z0 := HR.out.f0
      simp only at e0 e1 e2 e3 e4
      clear HK eT
      go_wp2
      have t2 := (Trd.refl w.heap.size wr).over tn ts te (.slice x1 y1 z1) (.slice x2 y2 z2)
      refine bodyPost_ret (results_lb2 rfl _ _ w.heap.size rfl rfl (HR.out.l0.over (n2 := tn) (s2 := ts) (ep2 := te) (sv2 := .slice x1 y1 z1) (mv2 := .slice x2 y2 z2))) rfl ?_
      rw [← HTT.out]
      exact ⟨_, _, by rw [← HF.out]; rfl, (HR.out.n1.trd t2 (by omega)).nl, (HR.out.n2.trd t2 (by omega)).nl, t2.kp w HR.out.k (Nat.le_refl _)⟩
set_option maxRecDepth 100000 in
set_option maxHeartbeats 4000000 in
theorem rnewest_any (v : Value) (l : List ByteArray) (w : World) (h : StrsIn w v l) (hs : ∀ i, i < l.length → (l.getD i noS).size ≤ 9223372036854775807) : Calls Try.prog 25 #[v] w fun e w' => ∃ u1 u2, e = .returned (.tuple #[lV (nwL l l.length).n (nwL l l.length).s (nwL l l.length).ep u1 u2, .bool (nwF l l.length)]) ∧ Nl w' u1 (nwL l l.length).sts ∧ Nl w' u2 (nwL l l.length).mks ∧ Kp w w' := by
  have hsh : ∃ a b off cap, v = .slice a l.length cap ∧ l.length ≤ cap ∧ cap ≤ 9223372036854775807 ∧ (0 < l.length → a = some ⟨b, off, none⟩) ∧ ∀ i, i < l.length → w.cell? ⟨b, off + i, none⟩ = some (.string (l.getD i noS)) := by
    cases h with
    | empty a cap h => unfold maxLen at h; exact ⟨a, 0, 0, cap, rfl, by simp, by omega, fun h => absurd h (by simp), fun i hi => absurd hi (by simp)⟩
    | some b off cap l h0 h1 h2 hc => unfold maxLen at h2; exact ⟨_, b, off, cap, rfl, h1, by omega, fun _ => rfl, hc⟩
  obtain ⟨a, b, off, cap, rfl, hle, hmx, hsome, hc⟩ := hsh
  obtain ⟨N, hN⟩ : ∃ N, N = l.length := ⟨_, rfl⟩
  rw [← hN] at hle hsome hc hs ⊢
  have HC := hid3 hc
  have HSz := hid3 hs
  have hNm : N ≤ 9223372036854775807 := by omega
  have l0 : Nw w w.heap.size (w.heap.size + 1) (nwL l 0) (.slice none 0 0) (.slice none 0 0) ((w.alloc (.cells #[.int .i64 0, .int .i64 0, .int .i64 0, .slice none 0 0, .slice none 0 0] 32)).alloc (.cells #[.int .i64 0, .int .i64 0, .int .i64 0, .slice none 0 0, .slice none 0 0] 32)) := by
    have q1 := (Lc.new w 0 0 0 (.slice none 0 0) (.slice none 0 0) 32).kept ((Kp.refl _).alloc (.cells #[.int .i64 0, .int .i64 0, .int .i64 0, .slice none 0 0, .slice none 0 0] 32))
    have q2 := Lc.new (w.alloc (.cells #[.int .i64 0, .int .i64 0, .int .i64 0, .slice none 0 0, .slice none 0 0] 32)) 0 0 0 (.slice none 0 0) (.slice none 0 0) 32
    rw [asz] at q2
    refine ⟨q1, fun o => ?_, q2, fun o => ?_, Nn.nil _ _, Nn.nil _ _, ((Kp.refl w).alloc _).alloc _, by simp, by omega, Nat.le_refl _⟩
    · exact (Below.frozen (p := ⟨w.heap.size, o, none⟩) ((Kp.refl _).alloc _) (by simp)).trans (by simp)
    · have : (w.alloc (.cells #[.int .i64 0, .int .i64 0, .int .i64 0, .slice none 0 0, .slice none 0 0] 32)).heap.size = w.heap.size + 1 := by simp
      rw [← this]; simp
  have H0 := hid3 l0
  clear hc hs hN h l0
  go_enter Try.func25, Try.ntmps25
  go_wp2
  go_loopw [5, 6] (fun f i wr => ∃ (k : Nat) (F : Bool) (u1 u2 : Value), k ≤ N ∧ i = .int .i64 k ∧ f = .bool F ∧ Hid (F = nwF l k ∧ Nw w w.heap.size (w.heap.size + 1) (nwL l k) u1 u2 wr)) (fun _ i _ => N - (intOf i).toNat)
  case atStart => exact ⟨0, false, _, _, Nat.zero_le _, rfl, rfl, rfl, H0.out⟩
  case round =>
    clear H0
    obtain ⟨k, F, u1, u2, hk, rfl, rfl, HK⟩ := hrel
    have hn1 := HK.out.2.n1.nl.shape
    have hn2 := HK.out.2.n2.nl.shape
    obtain ⟨x1, y1, z1, rfl⟩ := hn1
    obtain ⟨x2, y2, z2, rfl⟩ := hn2
    by_cases hlt : k < N
    · obtain rfl := hsome (by omega)
      have c0 := HK.out.2.k.held (HC.out k hlt)
      have hsz := HSz.out k hlt
      have hYes := @nw_yes l k
      have hNo := @nw_no l k
      have hG := rget_new (l.getD k noS) hsz wr
      have hEp := @gtL_ep (l.getD k noS)
      have hNone := nw_none l k
      obtain ⟨y, ey⟩ : ∃ y, y = l.getD k noS := ⟨_, rfl⟩
      rw [← ey] at c0 hsz hYes hNo hG hEp
      obtain ⟨GE, eGE⟩ : ∃ x, x = gtE y := ⟨_, rfl⟩
      rw [← eGE] at hYes hNo hG hEp
      obtain ⟨G, eG⟩ : ∃ x, x = gtL y := ⟨_, rfl⟩
      rw [← eG] at hYes hNo hG hEp
      obtain ⟨T, eT⟩ : ∃ x, x = nwL l k := ⟨_, rfl⟩
      rw [← eT] at hYes hNo hNone HK
      have HYes := hid3 hYes
      have HNo := hid3 hNo
      have HEp := hid3 hEp
      have HNone := hid3 hNone
      clear ey eGE eG eT hYes hNo hEp hNone
      obtain ⟨gn, gs, ge, gst, gmk⟩ := G
      obtain ⟨tn, ts, te, tst, tmk⟩ := T
      simp only at hG
      unfold lV at hG
      go_wp2_with fail
      refine hG.mono ?_; rintro e w2 ⟨v1, v2, rfl, m1, m2, k2⟩
      obtain ⟨f1, f2, f3, rfl⟩ := m1.nl.shape
      obtain ⟨f4, f5, f6, rfl⟩ := m2.nl.shape
      have l2 := Lc.new w2 gn gs ge (.slice f1 f2 f3) (.slice f4 f5 f6) 32
      have k3 : Kp w2 (w2.alloc (.cells #[.int .i64 gn, .int .i64 gs, .int .i64 ge, .slice f1 f2 f3, .slice f4 f5 f6] 32)) := (Kp.refl w2).alloc _
      have HX := HK.out.2.hX
      have HM := hid3 (And.intro (m1.mono (c := w.heap.size + 1 + 1) (by omega)) (m2.mono (c := w.heap.size + 1 + 1) (by omega)))
      obtain ⟨w3, hw3⟩ : ∃ V, V = w2.alloc (.cells #[.int .i64 gn, .int .i64 gs, .int .i64 ge, .slice f1 f2 f3, .slice f4 f5 f6] 32) := ⟨_, rfl⟩
      have HW3 := hid3 hw3
      have HR3 := hid3 (HK.out.2.kept (k2.trans k3))
      have HF := hid3 HK.out.1
      have HR2 := hid3 (HK.out.2.kept k2)
      rw [← hw3] at l2 k3 HR3
      have hlX : w.heap.size + 1 < w2.heap.size := HR2.out.hX
      obtain ⟨e0, e1, e2, e3, e4⟩ := HR2.out.lx
      have zx := HR2.out.fx
      clear hG m1 m2 k2 k3 hw3 c0 HX HK hsz
      simp only at e0 e1 e2 e3 e4
      by_cases q1 : GE = 0
      · have b1 : (GE == 0) = true := beq_iff_eq.2 q1
        by_cases q2 : te < ge
        · obtain ⟨r1, r2⟩ := HYes.out ⟨q1, q2⟩
          have HOV := hid3 ((HR2.out.put (L2 := ⟨gn, gs, ge, gst, gmk⟩) HM.out.1 HM.out.2).kept ((Kp.refl _).alloc (.cells #[.int .i64 gn, .int .i64 gs, .int .i64 ge, .slice f1 f2 f3, .slice f4 f5 f6] 32)))
          have HFin : Hid (true = nwF l (k + 1) ∧ Nw w w.heap.size (w.heap.size + 1) (nwL l (k + 1)) (.slice f1 f2 f3) (.slice f4 f5 f6) ((over w2 (w.heap.size + 1) gn gs ge (.slice f1 f2 f3) (.slice f4 f5 f6)).alloc (.cells #[.int .i64 gn, .int .i64 gs, .int .i64 ge, .slice f1 f2 f3, .slice f4 f5 f6] 32))) := by rw [r1, r2]; exact ⟨rfl, HOV.out⟩
          clear q1 r1 r2
          have hgt : decide (te < ge) = true := decide_eq_true q2
          cases F with
          | true =>
            go_wp2
            go_roundw
            case rel => exact ⟨k + 1, _, _, _, by omega, by go_num, rfl, HFin⟩
            case measure => simp [intOf]; omega
          | false =>
            go_wp2
            go_roundw
            case rel => exact ⟨k + 1, _, _, _, by omega, by go_num, rfl, HFin⟩
            case measure => simp [intOf]; omega
        · obtain ⟨r1, r2⟩ := HNo.out (fun h => q2 h.2)
          have HFin : Hid (F = nwF l (k + 1) ∧ Nw w w.heap.size (w.heap.size + 1) (nwL l (k + 1)) (.slice x1 y1 z1) (.slice x2 y2 z2) w3) := by rw [r1, r2]; exact ⟨HF.out, HR3.out⟩
          rw [HW3.out] at HFin
          clear r1 r2
          have hgt : decide (te < ge) = false := decide_eq_false q2
          cases F with
          | true =>
            go_wp2
            go_roundw
            case rel => exact ⟨k + 1, _, _, _, by omega, by go_num, rfl, HFin⟩
            case measure => simp [intOf]; omega
          | false =>
            exfalso
            have hT := HNone.out HF.out.symm
            have h1 := HEp.out q1
            unfold noL at hT
            simp only [LB.mk.injEq] at hT h1
            omega
      · have b1 : (GE == 0) = false := beq_eq_false_iff_ne.2 q1
        obtain ⟨r1, r2⟩ := HNo.out (fun h => q1 h.1)
        have HFin : Hid (F = nwF l (k + 1) ∧ Nw w w.heap.size (w.heap.size + 1) (nwL l (k + 1)) (.slice x1 y1 z1) (.slice x2 y2 z2) w3) := by rw [r1, r2]; exact ⟨HF.out, HR3.out⟩
        rw [HW3.out] at HFin
        clear q1 r1 r2
        go_wp2
        go_roundw
        case rel => exact ⟨k + 1, _, _, _, by omega, by go_num, rfl, HFin⟩
        case measure => simp [intOf]; omega
    · obtain rfl : N = k := by omega
      have HR := hid3 HK.out.2
      have HF := hid3 HK.out.1
      obtain ⟨T, eT⟩ : ∃ x, x = nwL l N := ⟨_, rfl⟩
      rw [← eT] at HR
      obtain ⟨tn, ts, te, tst, tmk⟩ := T
      have HTT := hid3 eT
      obtain ⟨e0, e1, e2, e3, e4⟩ := HR.out.lx
      obtain ⟨c0, c1, c2, c3, c4⟩ := HR.out.l0
      have z0 := HR.out.f0
      simp only at e0 e1 e2 e3 e4
      clear HK eT
      go_wp2
      have t2 := (Trd.refl w.heap.size wr).over tn ts te (.slice x1 y1 z1) (.slice x2 y2 z2)
      refine bodyPost_ret (results_rl2 rfl _ _ w.heap.size rfl rfl (HR.out.l0.over (n2 := tn) (s2 := ts) (ep2 := te) (sv2 := .slice x1 y1 z1) (mv2 := .slice x2 y2 z2))) rfl ?_
      rw [← HTT.out]
      exact ⟨_, _, by rw [← HF.out]; rfl, (HR.out.n1.trd t2 (by omega)).nl, (HR.out.n2.trd t2 (by omega)).nl, t2.kp w HR.out.k (Nat.le_refl _)⟩

end Go.Proofs.Ytobpgfnmhpgkeaa
