/-
  A contract of a bay's New. No condition.
-/
import Derived.Test.YtmklkdopmemfaaaByStep
namespace Go.Proofs.Ytmklkdopmemfaaa
open Go.RowKit Plain
set_option linter.unusedVariables false

theorem info_pm : (Try.prog.info? 44).map (fun i => (i.zero, i.size, i.bytes)) = some (some (.pointer none), 1, 8) := by kernel_rfl
theorem ow_new2 (k : Int) (w0 w : World) (K : Kp w0 w) : Calls Try.prog 26 #[.int .i64 k] w fun e w' => ∃ b T, e = .returned (.pointer (some ⟨b, 0, none⟩)) ∧ Ow w0 w' b T (nw (nwN k)) ∧ Kp w w' ∧ (∀ t, t ∈ T → w.heap.size ≤ t) := ow_new k w0 w K
/-- a bay whose first k members are made. -/
structure NwL (w0 w wr : World) (b m n k : Nat) (X F : List Nat) (S : MS) : Prop where
  p : PwIn wr b (.slice (some ⟨m, 0, none⟩) n n) none 0 0
  hm : m < wr.heap.size
  ar : ∀ i, i < k → wr.cell? ⟨m, i, none⟩ = some (.pointer (some ⟨X.getD i 0, 0, none⟩))
  th : wr.there m 0 n
  fam : Fam Ow w0 wr X (List.replicate k S) F
  n1 : b ∉ F
  n2 : m ∉ F
  n3 : b ≠ m
  hbw : w.heap.size ≤ b
  hmw : w.heap.size ≤ m
  fn : ∀ t, t ∈ F → w.heap.size ≤ t
  kp : Kp w wr
theorem NwL.at {w0 w wr : World} {b m n k : Nat} {X F : List Nat} {S : MS} (h : NwL w0 w wr b m n k X F S) (hk : k < n) : ∃ v, wr.cell? ⟨m, k, none⟩ = some v ∧ wr.frozen? ⟨m, k, none⟩ = false := by
  obtain ⟨h1, h2⟩ := h.th k hk
  rw [Nat.zero_add] at h1 h2
  obtain ⟨v, hv⟩ := Option.isSome_iff_exists.1 h1
  exact ⟨v, hv, h2⟩
theorem NwL.len {w0 w wr : World} {b m n k : Nat} {X F : List Nat} {S : MS} (h : NwL w0 w wr b m n k X F S) : X.length = k := by
  have := h.fam.len
  simpa using this
theorem NwL.more {w0 w wr : World} {b m n k : Nat} {X F : List Nat} {S : MS} (h : NwL w0 w wr b m n k X F S) {w1 : World} {x : Nat} {P : List Nat} (ho : Ow w0 w1 x P S) (k1 : Kp wr w1) (hP : ∀ t, t ∈ P → wr.heap.size ≤ t) (hk : k < n) : NwL w0 w (w1.setCell ⟨m, k, none⟩ (.pointer (some ⟨x, 0, none⟩))) b m n (k + 1) (X ++ [x]) (F ++ P) S := by
  have q : Sp [m] w1 (w1.setCell ⟨m, k, none⟩ (.pointer (some ⟨x, 0, none⟩))) := (Sp.refl [m] w1).set m k (by simp) _
  have e0 := k1.sp []
  have hl := h.len
  have hmP : m ∉ P := fun ht => by have := hP m ht; have := h.hm; omega
  have hbP : b ∉ P := fun ht => by have := hP b ht; have := h.p.hb; omega
  have hm1 : m < w1.heap.size := Nat.lt_of_lt_of_le h.hm k1.size
  have th1 : w1.there m 0 n := e0.there h.th (by simp)
  obtain ⟨u, hu⟩ := Option.isSome_iff_exists.1 (th1 k hk).1
  rw [Nat.zero_add] at hu
  have dj : Dj F P := fun t ht ht2 => by have := h.fam.low OL.ow t ht; have := hP t ht2; omega
  have fam1 : Fam Ow w0 w1 X (List.replicate k S) F := h.fam.kp OL.ow k1
  have fam2 := Fam.snoc OL.ow ho fam1 dj
  rw [show List.replicate k S ++ [S] = List.replicate (k + 1) S from by rw [List.replicate_succ']] at fam2
  refine ⟨(h.p.sp e0 (by simp)).sp q (by simpa using h.n3), Nat.lt_of_lt_of_le hm1 q.size, fun i hi => ?_, fun j hj => ?_, fam2.sp OL.ow q (fun t ht => ?_), ?_, ?_, h.n3, h.hbw, h.hmw, fun t ht => ?_, Kp.set (h.kp.trans k1) m k h.hmw _⟩
  · by_cases e : i = k
    · subst e
      rw [World.cell?_setCell_same _ _ _ hu]
      rw [List.getD_eq_getElem?_getD, List.getElem?_append_right (by omega), hl, Nat.sub_self]
      rfl
    · rw [cell_off _ _ _ _ _ e, e0.held (h.ar i (by omega)) (by simp)]
      rw [List.getD_eq_getElem?_getD, List.getD_eq_getElem?_getD, List.getElem?_append_left (by omega)]
  · obtain ⟨h1, h2⟩ := th1 j hj
    refine ⟨?_, (World.frozen?_setCell _ _ _ _).trans h2⟩
    by_cases e : 0 + j = k
    · rw [e, World.cell?_setCell_same _ _ _ hu]; rfl
    · rw [cell_off _ _ _ _ _ e]; exact h1
  · simp only [List.mem_singleton]
    rintro rfl
    rcases List.mem_append.1 ht with h5 | h5
    · exact h.n2 h5
    · exact hmP h5
  · intro ht
    rcases List.mem_append.1 ht with h5 | h5
    · exact h.n1 h5
    · exact hbP h5
  · intro ht
    rcases List.mem_append.1 ht with h5 | h5
    · exact h.n2 h5
    · exact hmP h5
  · rcases List.mem_append.1 ht with h5 | h5
    · exact h.fn t h5
    · exact Nat.le_trans h.kp.size (hP t h5)
theorem NwL.start {w0 w : World} {n : Nat} {S : MS} (hn : 1 ≤ n) : NwL w0 w ((w.alloc (.cells (madeCells #[.pointer none] n) 44)).alloc (.cells #[.int .u32 0, .int .i64 0, .int .i64 0, .slice (some ⟨w.heap.size, 0, none⟩) n n] 74)) (w.heap.size + 1) w.heap.size n 0 [] [] S := by
  obtain ⟨W, hW⟩ : ∃ W, W = w.alloc (.cells (madeCells #[.pointer none] n) 44) := ⟨_, rfl⟩
  have hs : W.heap.size = w.heap.size + 1 := by rw [hW]; simp
  have th : W.there w.heap.size 0 n := by rw [hW]; exact there_new w _ _ _ (by simp [madeCells])
  have kW : Kp w W := by rw [hW]; exact (Kp.refl w).alloc _
  rw [← hW, ← hs]
  have k2 : Kp W (W.alloc (.cells #[.int .u32 0, .int .i64 0, .int .i64 0, .slice (some ⟨w.heap.size, 0, none⟩) n n] 74)) := (Kp.refl W).alloc _
  have hc : ∀ i, (W.alloc (.cells #[.int .u32 0, .int .i64 0, .int .i64 0, .slice (some ⟨w.heap.size, 0, none⟩) n n] 74)).cell? ⟨W.heap.size, i, none⟩ = (#[.int .u32 0, .int .i64 0, .int .i64 0, .slice (some ⟨w.heap.size, 0, none⟩) n n] : Array Value)[i]? := fun i => World.cell?_alloc_at _ _ _ i rfl
  refine ⟨⟨by simp, hc 0, ⟨0, hc 1, fun k hk => (by cases hk), by omega, by omega⟩, hc 2, fun o => World.frozen?_alloc_at _ _ _ o rfl, hc 3⟩, by simp; omega, fun i hi => (by omega), (k2.sp []).there th (by simp), rfl, by simp, by simp, by omega, by omega, by omega, fun t ht => (by cases ht), kW.trans k2⟩

set_option maxRecDepth 100000 in
set_option maxHeartbeats 1000000 in
theorem bw_new (a s : Int) (w0 w : World) (K : Kp w0 w) : Calls Try.prog 7 #[.int .i64 a, .int .i64 s] w fun e w' => ∃ b T, e = .returned (.pointer (some ⟨b, 0, none⟩)) ∧ Bw w0 w' b T (nwB a s) ∧ Kp w w' ∧ (∀ t, t ∈ T → w.heap.size ≤ t) := by
  have hmin := @imin Try.prog
  have hmax := @imax Try.prog
  have hgd := Gd.new a s
  obtain ⟨n, hn⟩ : ∃ n, n = (min (max a 1) 32).toNat := ⟨_, rfl⟩
  have e1 : min (max a 1) 32 = (n : Int) := by omega
  have e2 : 1 ≤ n := by omega
  have e3 : n ≤ 32 := by omega
  obtain ⟨S, hS⟩ : ∃ S, S = nw (nwN s) := ⟨_, rfl⟩
  have eB : nwB a s = ⟨none, 0, 0, List.replicate n S⟩ := by unfold nwB; rw [hn, hS]
  rw [eB] at hgd ⊢
  have hmk := fun W => run_make_row' (P := Try.prog) 62 44 (.pointer none) 8 Try.underlying62 info_pm rfl .i64 .i64 n (by omega) (by omega) W
  have H0 : Hid (NwL w0 w _ (w.heap.size + 1) w.heap.size n 0 [] [] S) := NwL.start (w0 := w0) (w := w) e2
  have HG := hid hgd
  have hnew : ∀ W, Kp w0 W → Calls Try.prog 26 #[.int .i64 s] W fun e w' => ∃ b T, e = .returned (.pointer (some ⟨b, 0, none⟩)) ∧ Ow w0 w' b T S ∧ Kp W w' ∧ (∀ t, t ∈ T → W.heap.size ≤ t) := fun W hW => by rw [hS]; exact ow_new s w0 W hW
  clear hgd eB hS hn
  obtain ⟨b, hb⟩ : ∃ b, b = w.heap.size + 1 := ⟨_, rfl⟩
  obtain ⟨m, hm⟩ : ∃ m, m = w.heap.size := ⟨_, rfl⟩
  obtain ⟨W, hW⟩ : ∃ W, W = (w.alloc (.cells (madeCells #[.pointer none] n) 44)).alloc (.cells #[.int .u32 0, .int .i64 0, .int .i64 0, .slice (some ⟨w.heap.size, 0, none⟩) n n] 74) := ⟨_, rfl⟩
  rw [← hW, ← hb, ← hm] at H0
  have HW := hid hW
  have HB := hid hb
  have HM := hid hm
  have c3 := H0.out.p.c3
  clear hW hb hm
  go_enter Try.func7, Try.ntmps7
  go_wp2_with fail
  rw [← HW.out, ← HB.out, ← HM.out]
  clear hmk HW HB HM
  go_wp2_with fail
  go_loopw [18] (fun i wr => ∃ k X F, k ≤ n ∧ i = .int .i64 (k : Nat) ∧ Hid (NwL w0 w wr b m n k X F S)) (fun i _ => n - (intOf i).toNat)
  case atStart => exact ⟨0, [], [], by omega, by go_num, H0⟩
  case round =>
    clear H0 c3
    obtain ⟨k, X, F, hk, rfl, HL⟩ := hrel
    by_cases hlt : k < n
    · have c3 := HL.out.p.c3
      have hN := hnew wr.drew (K.trans (HL.out.kp.drew))
      obtain ⟨u, hu, hz⟩ := HL.out.at hlt
      have hm := HL.out.hm
      have cM : ∀ V, Kp wr.drew V → V.cell? ⟨m, k, none⟩ = some u := fun V kV => kV.held hu
      have zM : ∀ V, Kp wr.drew V → V.frozen? ⟨m, k, none⟩ = false := fun V kV => ((kV.sp []).frozen hm (by simp) k).trans hz
      have hk2 : ¬ n ≤ k := by omega
      have n3 := HL.out.n3
      have hB1 : ∀ V, Kp wr.drew V → V.cell? ⟨b, 3, none⟩ = some (.slice (some ⟨m, 0, none⟩) n n) := fun V kV => kV.held c3
      have hB2 : ∀ V v, Kp wr.drew V → (V.setCell ⟨m, k, none⟩ v).cell? ⟨b, 3, none⟩ = some (.slice (some ⟨m, 0, none⟩) n n) := fun V v kV => (World.cell?_setCell_other _ _ _ _ (by intro e; cases e; exact n3 rfl)).trans (kV.held c3)
      have kr : Kp wr.drew wr.drew := Kp.refl _
      clear hnew hu hz hm
      go_wp2_with fail
      go_region_held3 (fun V => V.cell? ⟨b, 3, none⟩ = some (.slice (some ⟨m, 0, none⟩) n n)) (first | exact hB1 _ (by assumption) | exact hB2 _ _ (by assumption) | go_keep) (first | (go_at_call 26; refine hN.mono ?_; rintro e wN ⟨x, P, rfl, hO, kO, hP⟩; have cN := cM _ kO; have zN := zM _ kO))
      all_goals (
        have HN : Hid (NwL w0 w (wN.setCell ⟨m, k, none⟩ (.pointer (some ⟨x, 0, none⟩))) b m n (k + 1) (X ++ [x]) (F ++ P) S) := HL.out.more hO ((Kp.refl wr).drew.trans kO) hP hlt
        clear HL cM zM cN zN c3 hO kO hP hB1 hB2 kr n3
        go_wp2
        go_roundw)
      case rel => exact ⟨k + 1, _, _, by omega, by go_num, HN⟩
      case measure => simp [intOf]; omega
    · obtain rfl : k = n := by omega
      have hL := HL.out
      have hq : Hid (∃ b' T, (.returned (.pointer (some ⟨b, 0, none⟩)) : Ending) = .returned (.pointer (some ⟨b', 0, none⟩)) ∧ Bw w0 wr b' T ⟨none, 0, 0, List.replicate k S⟩ ∧ Kp w wr ∧ (∀ t, t ∈ T → w.heap.size ≤ t)) := by
        have hl : (List.replicate k S).length = k := by simp
        refine ⟨b, b :: m :: F, rfl, ⟨m, X, F, rfl, ⟨by rw [hl]; exact hL.p, hL.hm, fun i hi => hL.ar i (by rw [← hl]; exact hi), hL.fam, hL.n1, hL.n2, hL.n3, Nat.le_trans K.size hL.hbw, Nat.le_trans K.size hL.hmw, HG.out⟩⟩, hL.kp, fun t ht => ?_⟩
        simp only [List.mem_cons] at ht
        rcases ht with rfl | rfl | ht
        · exact hL.hbw
        · exact hL.hmw
        · exact hL.fn t ht
      clear hL HL
      go_wp2
      go_ret
      exact hq.out

end Go.Proofs.Ytmklkdopmemfaaa
