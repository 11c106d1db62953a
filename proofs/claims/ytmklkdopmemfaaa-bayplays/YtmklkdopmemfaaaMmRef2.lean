/-
  Contracts of the document's Now, Read. Conditions: that the member lies in memory; few writes wait.
-/
import Derived.Test.YtmklkdopmemfaaaMmPut
namespace Go.Proofs.Ytmklkdopmemfaaa
open Go.RowKit Plain
set_option linter.unusedVariables false

/-- the bytes of a sector, by the last write. -/
def nowD (l : List ByteArray) : List (Nat × ByteArray) → Nat → ByteArray
  | [], i => l.getD i noS
  | p :: r, i => nowD (l.set p.1 p.2) r i
theorem nowD_pl : ∀ (r : List (Nat × ByteArray)) (l : List ByteArray) (i : Nat), nowD l r i = (pl l r).getD i noS
  | [], _, _ => rfl
  | p :: r, l, i => nowD_pl r _ i
theorem pl_hit (l : List ByteArray) (r : List (Nat × ByteArray)) (j i : Nat) (hj : j < r.length) (hi : i < l.length) (hp : (r.getD j (0, noS)).1 = i) (hl : ∀ m, j < m → m < r.length → (r.getD m (0, noS)).1 ≠ i) : (pl l r).getD i noS = (r.getD j (0, noS)).2 := by
  have e : r = r.take (j + 1) ++ r.drop (j + 1) := (List.take_append_drop _ _).symm
  have h1 : ∀ (q : List (Nat × ByteArray)) (l : List ByteArray), (∀ p ∈ q, p.1 ≠ i) → (pl l q).getD i noS = l.getD i noS := by
    intro q
    induction q with
    | nil => intro l _; rfl
    | cons p q ih =>
      intro l hq
      simp only [pl]
      rw [ih _ (fun x hx => hq x (List.mem_cons_of_mem _ hx)), getD_set_ne (hq p List.mem_cons_self)]
  conv => lhs; rw [e]
  rw [pl_app, h1 _ _ (fun p hp => ?_), pl_take l r j hj, ← hp]
  · exact getD_set_eq (by rw [pl_len, hp]; exact hi) _ _
  · obtain ⟨m, hm, rfl⟩ := List.getElem_of_mem hp
    rw [List.getElem_drop]
    have := hl (j + 1 + m) (by omega) (by rw [List.length_drop] at hm; omega)
    rw [List.getD_eq_getElem?_getD, List.getElem?_eq_getElem (by rw [List.length_drop] at hm; omega)] at this
    exact this
theorem pl_miss (l : List ByteArray) (r : List (Nat × ByteArray)) (i : Nat) (hl : ∀ m, m < r.length → (r.getD m (0, noS)).1 ≠ i) : (pl l r).getD i noS = l.getD i noS := by
  induction r generalizing l with
  | nil => rfl
  | cons p q ih =>
    simp only [pl]
    rw [ih _ (fun m hm => by have := hl (m + 1) (by simp; omega); simpa using this), getD_set_ne (by have := hl 0 (by simp); simpa using this)]
set_option maxRecDepth 100000 in
set_option maxHeartbeats 1000000 in
theorem now_any {w : World} {r gs cap : Nat} {wv : Value} {S : MS} (h : RefIn w r gs cap wv S) (i : Nat) (hi : i < S.las.length) : Calls Try.prog 14 #[.pointer (some ⟨r, 0, none⟩), .int .i64 (i : Int)] w fun e w' => e = .returned (.string ((pl S.las S.row).getD i noS)) ∧ w' = w := by
  obtain ⟨a, cc, rfl, hn1, hn2⟩ := h.wl
  obtain ⟨n, hn⟩ : ∃ n, n = S.row.length := ⟨_, rfl⟩
  rw [← hn] at h hn1
  have HN := hid hn
  have c0 := h.c0
  have c1 := h.c1
  have H := hid h
  have k1 := h.k1
  have k2 := h.k2
  have f2 := h.fine.n2
  obtain ⟨V, hV⟩ : ∃ V, V = (pl S.las S.row).getD i noS := ⟨_, rfl⟩
  rw [← hV]
  have HV := hid hV
  obtain ⟨L, hL⟩ : ∃ L, L = S.las.length := ⟨_, rfl⟩
  rw [← hL] at c0 hi k1 f2
  have HL := hid hL
  clear hn h hV hL
  go_enter Try.func14, Try.ntmps14
  go_wp2_with fail
  go_loopw [5] (fun q wr => ∃ k : Nat, k ≤ n ∧ q = .int .i64 ((k : Int) - 1) ∧ Hid (∀ m, k ≤ m → m < n → (S.row.getD m (0, noS)).1 ≠ i) ∧ wr = w) (fun q _ => ((intOf q) + 1).toNat)
  case atStart => exact ⟨n, Nat.le_refl _, by go_num, fun m h1 h2 => by omega, rfl⟩
  case round =>
    obtain ⟨k, hk, rfl, HQ, rfl⟩ := hrel
    by_cases h0 : 0 < k
    · obtain ⟨g, c', hv, hat⟩ := H.out.wat (by rw [← HN.out]; omega)
      obtain rfl : a = some ⟨g, 0, none⟩ := by simp only [Value.slice.injEq] at hv; exact hv.1
      obtain ⟨k', rfl⟩ : ∃ k', k = k' + 1 := ⟨k - 1, by omega⟩
      obtain ⟨d0, d1⟩ := hat k' (by rw [← HN.out]; omega)
      have e1 : ((k' + 1 : Nat) : Int) - 1 = (k' : Int) := by omega
      rw [e1]
      obtain ⟨p, hp⟩ : ∃ p, p = S.row.getD k' (0, noS) := ⟨_, rfl⟩
      rw [← hp] at d0 d1
      have HP := hid hp
      have hk2 : (k' : Int) < (n : Int) := by omega
      obtain ⟨x, y⟩ := p
      simp only at d0 d1
      clear hp hv hat
      by_cases he : x = i
      · subst he
        have HF : Hid (V = y) := by
          show V = y
          rw [HV.out, pl_hit S.las S.row k' x (by rw [← HN.out]; omega) (by rw [← HL.out]; exact hi) (by rw [← HP.out]) (fun m h1 h2 => HQ.out m (by omega) (by rw [HN.out]; exact h2)), ← HP.out]
        go_wp2
        go_ret
        exact ⟨by rw [HF.out]; rfl, rfl⟩
      · have he2 : ((x : Int) == (i : Int)) = false := by simpa using (by omega : ¬ (x : Int) = (i : Int))
        have he3 : ¬ (x : Int) = (i : Int) := by omega
        have HQ2 : Hid (∀ m, k' ≤ m → m < n → (S.row.getD m (0, noS)).1 ≠ i) := fun m h1 h2 => by
          by_cases e : m = k'
          · subst e; rw [← HP.out]; exact he
          · exact HQ.out m (by omega) h2
        go_wp2
        go_roundw
        case rel => exact ⟨k', by omega, by go_num, HQ2, by first | rfl | trivial⟩
        case measure => first | (simp [intOf]; done) | (simp [intOf]; omega)
    · obtain rfl : k = 0 := by omega
      have cs := H.out.s i (by rw [← HL.out]; exact hi)
      have HF : Hid (V = S.las.getD i noS) := by
        show V = _
        rw [HV.out]
        exact pl_miss S.las S.row i (fun m hm => HQ.out m (by omega) (by rw [HN.out]; exact hm))
      have hi2 : (i : Int) < (L : Int) := by omega
      obtain ⟨U, hU⟩ : ∃ U, U = S.las.getD i noS := ⟨_, rfl⟩
      rw [← hU] at cs HF
      clear hU
      go_wp2
      go_ret
      exact ⟨by rw [HF.out]; rfl, rfl⟩
set_option maxRecDepth 100000 in
set_option maxHeartbeats 1000000 in
theorem rread_any {w : World} {r gs cap : Nat} {wv : Value} {S : MS} (h : RefIn w r gs cap wv S) (k : Int) (hR : Right S) : Calls Try.prog 55 #[.pointer (some ⟨r, 0, none⟩), .int .i64 k] w fun e w' => e = .returned (.tuple #[.string (rdS S k), .int .i64 (rcE S k)]) ∧ Rd w w' r gs wv (rd S k) := by
  have hm := may_any h k
  by_cases hE : rcE S k = 0
  · have e2 : rd S k = ⟨S.now, S.las, S.row, S.dead, up S.c 0⟩ := if_pos hE
    obtain ⟨hd, h0, hlt⟩ := rc_ok hE
    obtain ⟨i, rfl⟩ : ∃ i : Nat, k = (i : Int) := ⟨k.toNat, by omega⟩
    have e1 : rdS S (i : Int) = (pl S.las S.row).getD i noS := by rw [rd_in hd (by omega), hR.live hd]
    rw [e1, e2, hE]
    rw [hE] at hm
    have hi : i < S.las.length := by omega
    clear hE e1 e2 hd h0
    go_enter Try.func55, Try.ntmps55
    go_wp2_with fail
    refine hm.mono ?_
    rintro e w1 ⟨rfl, rfl⟩
    clear hm
    have cc4 := h.cn 0 (by omega)
    have zz4 := h.z 3
    try simp only at cc4
    have HM3 := hid h
    have hwp := wrap_up ((S).c 0)
    try simp only at hwp
    obtain ⟨C1, hC1⟩ : ∃ C1, C1 = wrap64 ((S).c 0 + 1) := ⟨_, rfl⟩
    try simp only at hC1
    rw [← hC1] at hwp
    have HC1 := hid hC1
    obtain ⟨C0, hC0⟩ : ∃ C0, C0 = (S).c 0 := ⟨_, rfl⟩
    try simp only at hC0
    rw [← hC0] at cc4 hwp HC1
    have HC0 := hid hC0
    clear hC1 hC0 h
    go_wp2_with fail
    go_region
    have M5 := (HM3.out.kp (Kp.refl w1).drew).count 0 (by omega)
    have S5 : Sp [r] w1 (w1.drew.setCell ⟨r, 3 + 0, none⟩ (.int .i64 C1)) := ((Kp.refl w1).drew.sp [r]).trans ((Sp.refl [r] _).set r _ (by simp) _)
    rw [show wrap64 ((S).c 0 + 1) = C1 from by rw [HC1.out, HC0.out]] at M5
    obtain ⟨W5, hW5⟩ : ∃ W5, W5 = w1.drew.setCell ⟨r, 3 + 0, none⟩ (.int .i64 C1) := ⟨_, rfl⟩
    rw [← hW5] at M5 S5
    have HW5 := hid hW5
    have hnow := now_any M5 i hi
    have HM5 := hid M5
    clear hW5 M5 HM3 cc4 zz4 hwp
    have hW5' : (w1.setCell ⟨r, 3, none⟩ (.int .i64 C1)).drew = W5 := HW5.out.symm
    rw [hW5']
    go_wp2_with fail
    refine hnow.mono ?_
    rintro e w6 ⟨rfl, rfl⟩
    clear hnow hW5' HW5
    go_wp2
    go_ret2
    exact ⟨rfl, gs, cap, wv, HM5.out, S5.rr, Nw.refl _ _⟩
  · have e1 : rdS S k = ByteArray.empty := if_neg hE
    have e2 : rd S k = S := if_neg hE
    rw [e1, e2]
    obtain ⟨E, hEE⟩ : ∃ E, E = rcE S k := ⟨_, rfl⟩
    rw [← hEE] at hE hm ⊢
    have hE2 : (E == 0) = false := by simpa using hE
    clear hEE hE e1 e2
    go_enter Try.func55, Try.ntmps55
    go_wp2_with fail
    refine hm.mono ?_
    rintro e w1 ⟨rfl, rfl⟩
    have hRd : Rd w1 w1 r gs wv S := ⟨gs, cap, wv, h, Sp.refl _ _, Nw.refl _ _⟩
    clear h hm
    go_wp2
    go_ret2
    exact ⟨rfl, hRd⟩

end Go.Proofs.Ytmklkdopmemfaaa
