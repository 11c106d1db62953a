/-
  A contract of the document's Crash. Conditions: that the member lies in memory, and the words in another block.
-/
import Derived.Test.YtmklkdopmemfaaaMmRef4
namespace Go.Proofs.Ytmklkdopmemfaaa
open Go.RowKit Plain
set_option linter.unusedVariables false

/-- the same but for what a member has now. -/
theorem RefIn.st {w : World} {r gs cap : Nat} {wv : Value} {S S' : MS} (h : RefIn w r gs cap wv S) (e1 : S'.las = S.las) (e2 : S'.row = S.row) (e3 : S'.dead = S.dead) (e4 : S'.c = S.c) (f : Fine S') : RefIn w r gs cap wv S' := by
  obtain ⟨n1, l1, r1, d1, c1⟩ := S
  obtain ⟨n2, l2, r2, d2, c2⟩ := S'
  simp only at e1 e2 e3 e4
  subst e1 e2 e3 e4
  exact ⟨h.hr, h.hg, h.c0, h.c1, h.c2, h.cn, h.z, h.s, h.sz, h.q, h.k1, h.k2, h.n1, h.n2, f⟩
theorem tk_stop (f : Nat → Bool) : ∀ (r : List (Nat × ByteArray)) (a k : Nat), (∀ j, a + k ≤ j → f j = false) → tk (fun k _ => f k) a r = tk (fun k _ => f k) a (r.take k)
  | [], a, k, _ => by simp
  | p :: r, a, 0, h => by
    have := tk_stop f r (a + 1) 0 (fun j hj => h j (by omega))
    simp only [List.take_zero, tk] at this ⊢
    simp [h a (by omega), this]
  | p :: r, a, k + 1, h => by
    have := tk_stop f r (a + 1) k (fun j hj => h j (by omega))
    simp only [List.take_succ_cons, tk] at this ⊢
    rw [this]
set_option maxRecDepth 100000 in
set_option maxHeartbeats 1000000 in
theorem rcrash_any {w : World} {r gs cap : Nat} {wv v : Value} {S : MS} (h : RefIn w r gs cap wv S) (hR : Right S) (ks : List Nat) (hk : KeIn w v ks) (hf : ∀ g off n c, v = .slice (some ⟨g, off, none⟩) n c → 0 < n → g ≠ gs) (hrl : S.row.length < 1000000) :
    Calls Try.prog 58 #[.pointer (some ⟨r, 0, none⟩), v] w fun e w' => e = .returned (.tuple #[]) ∧ Rd w w' r gs wv (cr S (bit ks)) := by
  cases hd : S.dead with
  | true =>
    have hrow := hR.gone hd
    have hR : Rd w w r gs wv (cr S (bit ks)) := ⟨gs, cap, wv, h.st (by unfold cr; rw [hrow]; rfl) (by rw [hrow]; rfl) rfl rfl (h.fine.cr _), Sp.refl _ _, Nw.refl _ _⟩
    have c2 := h.c2
    rw [hd] at c2
    obtain ⟨a1, cap1, rfl, _⟩ := hk.h
    clear h hk hf
    go_enter Try.func58, Try.ntmps58
    go_wp2
    refine bodyPost_ret (results_none rfl _ _ _) rfl ?_
    exact ⟨rfl, hR⟩
  | false =>
    obtain ⟨L, hL⟩ : ∃ L, L = fun m => pl S.las (tk (fun k _ => bit ks k) 0 (S.row.take m)) := ⟨_, rfl⟩
    have ecr : cr S (bit ks) = ⟨L S.row.length, L S.row.length, [], S.dead, S.c⟩ := by rw [hL]; unfold cr; simp only [List.take_length]
    have eL0 : L 0 = S.las := by rw [hL]; rfl
    have eLn : ∀ m, (L m).length = S.las.length := fun m => by rw [hL]; exact pl_len _ _
    have eLs : ∀ m, ks.length ≤ m / 64 → L m = L S.row.length := fun m hm => by
      rw [hL]
      simp only [List.take_length]
      rw [tk_stop (bit ks) S.row 0 m (fun j hj => by
        have : m / 64 ≤ j / 64 := Nat.div_le_div_right (by omega)
        unfold bit
        rw [decide_eq_false (by omega)]
        rfl)]
    have eL1 : ∀ m, m < S.row.length → L (m + 1) = if bit ks m then (L m).set (S.row.getD m (0, noS)).1 (S.row.getD m (0, noS)).2 else L m := fun m hm => by
      rw [hL]
      simp only
      rw [tk_take _ _ _ hm]
      split
      · exact pl_one _ _ _
      · rfl
    have fcr := h.fine.cr (bit ks)
    rw [ecr] at fcr ⊢
    have c2 := h.c2
    rw [hd] at c2
    obtain ⟨a, cc, rfl, hn1, hn2⟩ := h.wl
    obtain ⟨n, hn⟩ : ∃ n, n = S.row.length := ⟨_, rfl⟩
    rw [← hn] at h hn1 hrl eL1 eLs fcr ⊢
    have HN := hid hn
    have HL0 := hid eL0
    have HL1 := hid eL1
    have HLs := hid eLs
    have HLn := hid eLn
    have HF := hid fcr
    obtain ⟨a1, cap1, rfl, y1, y1b, _⟩ := hk.h
    have H : Hid (RefIn w r gs cap (.slice a n cc) ⟨S.now, L 0, S.row, S.dead, S.c⟩) := by
      have : RefIn w r gs cap (.slice a n cc) ⟨S.now, L 0, S.row, S.dead, S.c⟩ := h.st eL0 rfl rfl rfl ⟨by simp only [eL0]; exact h.fine.n1, by simp only [eL0]; exact h.fine.n2, by simp only [eL0]; exact h.fine.nn, h.fine.bn, by simp only [eL0]; exact h.fine.bl, by simp only [eL0]; exact h.fine.br⟩
      exact this
    have HK := hid hk
    have HFF := hid hf
    obtain ⟨kn, hkn⟩ : ∃ kn, kn = ks.length := ⟨_, rfl⟩
    rw [← hkn] at HK y1 HFF HLs ⊢
    have HKN := hid hkn
    clear hn h eL0 eL1 eLs eLn fcr hk hf ecr hL hkn
    go_enter Try.func58, Try.ntmps58
    go_wp2_with fail
    clear c2
    go_loopw [4] (fun i wr => ∃ k : Nat, k ≤ n ∧ i = .int .i64 k ∧ Hid (RefIn wr r gs cap (.slice a n cc) ⟨S.now, L k, S.row, S.dead, S.c⟩) ∧ Hid (Sp [gs] w wr)) (fun i _ => n - (intOf i).toNat)
    case atStart => exact ⟨0, by omega, by go_num, H, Sp.refl _ _⟩
    case round =>
      clear H
      obtain ⟨k, hk, rfl, HM, HS⟩ := hrel
      have e1 : (k : Int).tdiv 64 = ((k / 64 : Nat) : Int) := by rw [Int.tdiv_eq_ediv_of_nonneg (by omega)]; omega
      have e2 : (k : Int) / 64 = ((k / 64 : Nat) : Int) := by omega
      have e3 : (k : Int).tmod 64 = ((k % 64 : Nat) : Int) := by rw [Int.tmod_eq_emod_of_nonneg (by omega)]; omega
      have e4 : (k : Int) % 64 = ((k % 64 : Nat) : Int) := by omega
      obtain ⟨q, hq⟩ : ∃ q, q = k / 64 := ⟨_, rfl⟩
      obtain ⟨rr, hr⟩ : ∃ rr, rr = k % 64 := ⟨_, rfl⟩
      have hr64 : rr < 64 := by omega
      rw [← hq] at e1 e2
      rw [← hr] at e3 e4
      have c1 := HM.out.c1
      by_cases hlt : k < n
      · have hkn : (k : Int) < (n : Int) := by omega
        by_cases hqn : q < kn
        · have hqk : (q : Int) < (kn : Int) := by omega
          have hK2 := HK.out.sp HS.out (fun t ht g off n c he hn => by simp at ht; subst ht; exact HFF.out g off n c he hn)
          obtain ⟨a2, cap2, ee, _, _, h2⟩ := hK2.h
          obtain ⟨gk, off, hak, h3⟩ := h2 (by rw [← HKN.out]; omega)
          simp only [Value.slice.injEq] at ee
          obtain ⟨rfl, _, _⟩ := ee
          subst hak
          have ck := h3 q (by rw [← HKN.out]; exact hqn)
          have hX := hK2.z (ks.getD q 0) (by rw [List.getD_eq_getElem?_getD, List.getElem?_eq_getElem (by rw [← HKN.out]; exact hqn)]; exact List.getElem_mem _)
          have hbit : bit ks k = decide (ks.getD q 0 / 2 ^ rr % 2 = 1) := by
            unfold bit
            rw [← hq, ← hr, ← HKN.out, decide_eq_true hqn]
            rfl
          obtain ⟨X, hXX⟩ : ∃ X, X = ks.getD q 0 := ⟨_, rfl⟩
          rw [← hXX] at ck hX hbit
          obtain ⟨wo, hwo⟩ : ∃ wo, wo = wr := ⟨_, rfl⟩
          rw [← hwo] at HM HS ck c1 ⊢
          have HX := hid hX
          have HB := hid hbit
          clear hwo hK2 h2 h3 hXX hX hbit hq hr
          go_wp2_with fail
          go_loopw [5, 6] (fun x j wr => ∃ (m Y : Nat), m ≤ rr ∧ j = .int .i64 m ∧ x = .int .u64 Y ∧ Hid (Y = X / 2 ^ m) ∧ wr = wo) (fun _ j _ => rr - (intOf j).toNat)
          case atStart => exact ⟨0, X, by omega, by go_num, rfl, by show X = X / 2 ^ 0; simp, rfl⟩
          case round =>
            obtain ⟨m, Y, hm, rfl, rfl, HY, rfl⟩ := hrel
            have hY : Y < 18446744073709551616 := by rw [HY.out]; exact Nat.lt_of_le_of_lt (Nat.div_le_self _ _) HX.out
            by_cases hmr : m < rr
            · have hmr2 : (m : Int) < (rr : Int) := by omega
              have f1 : (Y : Int).tdiv 2 = ((Y / 2 : Nat) : Int) := by rw [Int.tdiv_eq_ediv_of_nonneg (by omega)]; omega
              have f2 : (Y : Int) / 2 = ((Y / 2 : Nat) : Int) := by omega
              have HY2 : Hid (Y / 2 = X / 2 ^ (m + 1)) := by
                show Y / 2 = X / 2 ^ (m + 1)
                rw [HY.out, Nat.pow_succ, Nat.div_div_eq_div_mul]
              have hY2 : Y / 2 < 18446744073709551616 := by omega
              obtain ⟨Z, hZ⟩ : ∃ Z, Z = Y / 2 := ⟨_, rfl⟩
              rw [← hZ] at f1 f2 HY2 hY2
              clear hZ HY
              go_wp2
              go_roundw
              case rel => exact ⟨m + 1, Z, by omega, by go_num, by go_num, HY2, by first | rfl | trivial⟩
              case measure => simp [intOf]; omega
            · obtain rfl : m = rr := by omega
              have hmr2 : ¬ (m : Int) < (m : Int) := by omega
              have f1 : (Y : Int).tmod 2 = ((Y % 2 : Nat) : Int) := by rw [Int.tmod_eq_emod_of_nonneg (by omega)]; omega
              have f2 : (Y : Int) % 2 = ((Y % 2 : Nat) : Int) := by omega
              have HB2 : Hid (bit ks k = decide (Y % 2 = 1)) := by
                show bit ks k = decide (Y % 2 = 1)
                rw [HB.out, HY.out]
              have hZ2 : Y % 2 < 2 := by omega
              obtain ⟨Z, hZ⟩ : ∃ Z, Z = Y % 2 := ⟨_, rfl⟩
              rw [← hZ] at f1 f2 HB2 hZ2
              clear hZ HY HB
              obtain ⟨g, c', hv, hat⟩ := HM.out.wat (show 0 < S.row.length by rw [← HN.out]; omega)
              simp only at hv hat
              obtain rfl : a = some ⟨g, 0, none⟩ := by simp only [Value.slice.injEq] at hv; exact hv.1
              have hks : k < S.row.length := by rw [← HN.out]; exact hlt
              obtain ⟨d0, d1⟩ := hat k hks
              have hpt := HL1.out k hlt
              have hpb := HM.out.fine.br (S.row.getD k (0, noS)) (by rw [List.getD_eq_getElem?_getD, List.getElem?_eq_getElem hks]; exact List.getElem_mem hks)
              obtain ⟨p, hp⟩ : ∃ p, p = S.row.getD k (0, noS) := ⟨_, rfl⟩
              rw [← hp] at d0 d1 hpt hpb
              obtain ⟨x, y⟩ := p
              simp only at d0 d1 hpt hpb
              clear hp hv hat
              by_cases hz : Z = 1
              · have hz2 : ((Z : Int) == 1) = true := by simp; omega
                rw [HB2.out, decide_eq_true hz, if_pos rfl] at hpt
                have c0 := HM.out.c0
                have kc1 := HM.out.k1
                have kc2 := HM.out.k2
                simp only at c0 kc1
                have hxl : x < (L k).length := hpb.1
                obtain ⟨M, hM⟩ : ∃ M, M = (L k).length := ⟨_, rfl⟩
                rw [← hM] at c0 kc1
                have hxm : (x : Int) < (M : Int) := by rw [hM]; omega
                have hyl := hpb.2
                have HPT := hid hpt
                clear hpt hpb hM hz HB2
                have q1 := kpw_cell c0
                have q2 := kpw_cell c1
                have q3 := kpw_cell d0
                have q4 := kpw_cell d1
                go_wp2_with fail
                refine wp_region_tailc2 rfl (by kernel_rfl) (by kernel_rfl) (by kernel_rfl) ?_
                simp only [List.dropLast]
                repeat (first
                  | go_big_quiet_skip
                  | (go_big_quiet_want; go_big_quiet_op; go_big_quiet_on))
                refine wpQuiet_nil ?_
                rintro w9 ⟨q, hp9⟩
                have kD : Kp wr w9 := by rw [hp9]; exact kpw_kp wr q
                have M9 := HM.out.kp kD
                have M5 := M9.sector x hxl y hyl
                simp only at M5
                rw [← HPT.out] at M5
                have S5 : Sp [gs] w (w9.setCell ⟨gs, x, none⟩ (.string y)) := (HS.out.trans (kD.sp [gs])).set gs x (by simp) _
                have cs9 := M9.s x hxl
                have zs9 := M9.sz x
                have HM5 := hid M5
                have HS5 := hid S5
                clear hp9 q1 q2 q3 q4 M9 M5 S5 HM HS kD
                go_wp2
                go_roundw
                case rel => first | exact ⟨k + 1, by omega, by go_num, HM5, HS5⟩ | (rw [hd] at HM5; exact ⟨k + 1, by omega, by go_num, HM5⟩)
                case measure => simp [intOf]; omega
              · have hz2 : ((Z : Int) == 1) = false := by simp; omega
                rw [HB2.out, decide_eq_false hz] at hpt
                simp only [Bool.false_eq_true, if_false] at hpt
                rw [← hpt] at HM
                clear hpt hpb hz HB2
                go_wp2
                go_roundw
                case rel => exact ⟨k + 1, by omega, by go_num, HM, HS⟩
                case measure => simp [intOf]; omega
        · have hqk : ¬ (q : Int) < (kn : Int) := by omega
          have hLe := HLs.out k (by omega)
          rw [hLe] at HM
          clear hq hr hLe
          have z1 := HM.out.z 1
          have M3 := HM.out.row (Sp.refl _ _) (.slice none 0 0) [] (World.ownsRow_nil _ _ _ _) (fun g hg => by cases hg) (fun p hp => by cases hp)
          have S3 : Sp (rblk r gs (.slice a n cc)) w (wr.setCell ⟨r, 1, none⟩ (.slice none 0 0)) := HS.out.rg.trans ((Sp.refl [r] _).set r 1 (by simp) _).rr
          simp only at M3
          have HM3 := hid M3
          have HS3 := hid S3
          clear M3 S3 HM HS
          go_wp2
          go_end0
          refine ⟨rfl, gs, cap, _, HM3.out.st rfl rfl hd.symm rfl (by rw [← hd]; exact HF.out), HS3.out, nw_rnone _ _ _ _⟩
      · obtain rfl : k = n := by omega
        have hkn : ¬ (k : Int) < (k : Int) := by omega
        have z1 := HM.out.z 1
        have M3 := HM.out.row (Sp.refl _ _) (.slice none 0 0) [] (World.ownsRow_nil _ _ _ _) (fun g hg => by cases hg) (fun p hp => by cases hp)
        have S3 : Sp (rblk r gs (.slice a k cc)) w (wr.setCell ⟨r, 1, none⟩ (.slice none 0 0)) := HS.out.rg.trans ((Sp.refl [r] _).set r 1 (by simp) _).rr
        simp only at M3
        have HM3 := hid M3
        have HS3 := hid S3
        clear M3 S3 HM HS
        go_wp2
        go_end0
        refine ⟨rfl, gs, cap, _, HM3.out.st rfl rfl hd.symm rfl (by rw [← hd]; exact HF.out), HS3.out, nw_rnone _ _ _ _⟩

end Go.Proofs.Ytmklkdopmemfaaa
