/-
  The contract of the document's Put. Conditions: that the label's lists lie in memory.
-/
import Derived.Test.YtobpgfnmhpgkeaaLbPut
import Derived.Test.YtobpgfnmhpgkeaaLbApp
import Derived.Test.YtobpgfnmhpgkeaaCrcRef
import Derived.Deep.RegionLaw
import Derived.Deep.LoopGhost
import Derived.Lib.SlBytesConst
namespace Go.Proofs.Ytobpgfnmhpgkeaa
open Go.RowKit Plain
set_option linter.unusedVariables false

theorem pb_ep (L : LB) (k : Nat) (h : k < 8) : be L.ep.toNat 8 k = pb L (4 + k) := by
  unfold pb
  rw [if_neg (by omega), if_pos (by omega)]
  congr 1; omega
theorem pb_mb (L : LB) (k : Nat) (h : k < L.sts.length) : mb L k = pb L (14 + k) := by
  unfold pb
  rw [if_neg (by omega), if_neg (by omega), if_neg (by omega), if_neg (by omega), if_pos (by omega)]
  congr 1; omega
theorem pb_past (L : LB) (k : Nat) (h : 14 + L.sts.length ≤ k) : pb L k = 0 := by
  unfold pb
  rw [if_neg (by omega), if_neg (by omega), if_neg (by omega), if_neg (by omega), if_neg (by omega)]
theorem tr_lit (L : LB) (w : World) (fr : Nat × Nat) : Fr (w.alloc (.cells #[.int .u8 84, .int .u8 82, .int .u8 85, .int .u8 78] 5 fr)) w.heap.size (.slice (some ⟨w.heap.size, 0, none⟩) 4 4) 4 (pb L) := by
  refine .inr ⟨w.heap.size, rfl, Nat.le_refl _, by simp, fun j hj => ?_⟩
  have := World.cell?_alloc_mark w #[.int .u8 84, .int .u8 82, .int .u8 85, .int .u8 78] 5 fr j
  refine this.trans ?_
  have hh : j = 0 ∨ j = 1 ∨ j = 2 ∨ j = 3 := by omega
  rcases hh with rfl | rfl | rfl | rfl <;> rfl
set_option maxRecDepth 100000 in
set_option maxHeartbeats 4000000 in
theorem rput_any (L : LB) (sv mv : Value) (w : World) (h1 : Nl w sv L.sts) (h2 : Nl w mv L.mks) : Calls Try.prog 11 #[lV L.n L.s L.ep sv mv] w fun e w' => e = .returned (.tuple #[.string (puS L), .int .i64 (puE L)]) ∧ Kp w w' := by
  have hG := fun w' (k : Kp w w') => rlgood_any L sv mv w' (h1.kept k) (h2.kept k)
  cases e1 : lg L with
  | false =>
    rw [show puS L = noS from if_neg (by simp [e1]), show puE L = 4 from if_neg (by simp [e1])]
    rw [e1] at hG
    unfold lV noS at *
    go_enter Try.func11, Try.ntmps11
    go_wp2_with fail
    refine (hG _ ((Kp.refl w).alloc _)).mono ?_; rintro e w1 ⟨rfl, k1⟩
    have K1 : Kp w w1 := ((Kp.refl w).alloc _).trans k1
    clear hG k1
    go_wp2
    go_ret2
    exact ⟨rfl, K1⟩
  | true =>
    rw [show puS L = ptS L from if_pos e1, show puE L = 0 from if_pos e1]
    rw [e1] at hG
    have GG := lg_gl e1
    have HGL : Hid (GL L) := GG
    have HSM := smN_lt (pb L) (pb_lt GG) 46
    have HPT : Hid (ptS L = bs 64 (sb L)) := rfl
    have HLL : Hid (L.sts.length ≤ 32) := by have := GG.l1; have := GG.n2; show L.sts.length ≤ 32; omega
    obtain ⟨P, hP⟩ : ∃ P, P = ptS L := ⟨_, rfl⟩
    rw [← hP] at HPT ⊢
    obtain ⟨SM, hSM⟩ : ∃ S, S = smN (pb L) 46 := ⟨_, rfl⟩
    rw [← hSM] at HSM
    have HM : Hid (SM = smN (pb L) 46) := hSM
    have HMB : Hid (∀ i, mb L i = (L.sts.getD i 0 * 64 + L.mks.getD i 0).toNat) := fun i => rfl
    have HEP : Hid (∀ k, k < 8 → be L.ep.toNat 8 k = pb L (4 + k)) := pb_ep L
    have H12 : Hid (pb L 12 = L.n.toNat ∧ pb L 13 = L.s.toNat) := ⟨rfl, rfl⟩
    have HPM : Hid (∀ k, k < L.sts.length → mb L k = pb L (14 + k)) := pb_mb L
    have HPP : Hid (∀ k, 14 + L.sts.length ≤ k → pb L k = 0) := pb_past L
    clear hP hSM e1
    obtain ⟨a1, g1, o1, p1, rfl, A1⟩ := h1
    obtain ⟨a2, g2, o2, p2, rfl, A2⟩ := h2
    obtain ⟨n1, n2, s1, s2, ep1, ep2, l1, l2, mm⟩ := GG
    obtain ⟨E, hE⟩ : ∃ E : Nat, L.ep = E := ⟨L.ep.toNat, by omega⟩
    obtain ⟨S, hS⟩ : ∃ S : Nat, L.s = S := ⟨L.s.toNat, by omega⟩
    obtain ⟨N, hN⟩ : ∃ N : Nat, L.n = N := ⟨L.n.toNat, by omega⟩
    have hl1 : L.sts.length = N := by omega
    have hl2 : L.mks.length = N := by omega
    rw [hE] at ep1 ep2 HEP hG ⊢
    rw [hS] at s1 s2 H12 hG ⊢
    rw [hN] at n1 n2 H12 hG ⊢
    have i1 := A1.ha
    have i2 := A2.ha
    have HA1 : Hid (∀ j, j < N → w.cell? ⟨g1, o1 + j, none⟩ = some (.int .i64 (L.sts.getD j 0))) := fun j hj => A1.c j (by omega)
    have HA2 : Hid (∀ j, j < N → w.cell? ⟨g2, o2 + j, none⟩ = some (.int .i64 (L.mks.getD j 0))) := fun j hj => A2.c j (by omega)
    have HMM : Hid (∀ j, j < N → 0 ≤ L.sts.getD j 0 ∧ L.sts.getD j 0 ≤ 2 ∧ 0 ≤ L.mks.getD j 0 ∧ L.mks.getD j 0 < 64) := fun j hj => mm j (by omega)
    rw [hl1] at i1 hG HPM HPP ⊢
    rw [hl2] at i2 hG ⊢
    clear A1 A2 l1 l2 mm hE hS hN hl1 hl2
    simp only [Int.toNat_natCast] at HEP H12
    unfold lV at hG ⊢
    go_enter Try.func11, Try.ntmps11
    go_wp2_with fail
    refine (hG _ ((Kp.refl w).alloc _)).mono ?_; rintro e w1 ⟨rfl, k1⟩
    have hLc : Lc w1 w.heap.size N S E (.slice a1 N p1) (.slice a2 N p2) := (Lc.new w _ _ _ _ _ _).kept k1
    have K1 : Hid (Kp w w1) := ((Kp.refl w).alloc _).trans k1
    have HLc : Hid (Lc w1 w.heap.size N S E (.slice a1 N p1) (.slice a2 N p2)) := hLc
    obtain ⟨c0, c1, c2, c3, c4⟩ := hLc.kept ((Kp.refl w1).alloc (.cells #[.int .u8 84, .int .u8 82, .int .u8 85, .int .u8 78] 5 (4, 5)))
    clear hG k1 hLc
    have hcs := Lib.run_convert_bytes_const (P := Try.prog) w1 48 5 #[.int .u8 84, .int .u8 82, .int .u8 85, .int .u8 78] 4 4 Try.underlying48 Try.underlying5
    obtain ⟨W2, hW2⟩ : ∃ W2, W2 = w1.alloc (.cells #[.int .u8 84, .int .u8 82, .int .u8 85, .int .u8 78] 5 (4, 5)) := ⟨_, rfl⟩
    have HW2 : Hid (W2 = w1.alloc (.cells #[.int .u8 84, .int .u8 82, .int .u8 85, .int .u8 78] 5 (4, 5))) := hW2
    have HF2 : Hid (Fr W2 w1.heap.size (.slice (some ⟨w1.heap.size, 0, none⟩) 4 4) 4 (pb L)) := by rw [hW2]; exact tr_lit L w1 _
    have KX2 : Hid (Kp w1 W2) := by rw [hW2]; exact (Kp.refl w1).alloc _
    have hb1 := big_any 8 E W2 (by omega) (by omega)
    rw [← hW2] at c0 c1 c2 c3 c4
    have hlt2 : w1.heap.size < W2.heap.size := by rw [hW2]; simp
    clear hW2
    have hcs2 : (convert 48 48 (.slice (some ⟨w1.heap.size, 0, none⟩) 4 4)).run Try.prog (w1.alloc (.cells #[.int .u8 84, .int .u8 82, .int .u8 85, .int .u8 78] 5)) = .ok (.slice (some ⟨w1.heap.size, 0, none⟩) 4 4) W2 := by rw [HW2.out]; exact hcs
    clear hcs HW2
    go_wp2_with fail
    clear hcs2
    refine hb1.mono ?_; rintro e w3 ⟨rfl, b3, k3⟩
    have HF3 : Hid (Fr w3 w1.heap.size (.slice (some ⟨w1.heap.size, 0, none⟩) 4 4) 4 (pb L)) := HF2.out.kept k3
    have KX3 : Hid (Kp w1 w3) := KX2.out.trans k3
    obtain ⟨eb, heb⟩ : ∃ eb, eb = W2.heap.size := ⟨_, rfl⟩
    rw [← heb] at b3 ⊢
    have HB3 : Hid (Byt w3 eb 8 (be E 8)) := b3
    have HN3 : Hid ((Value.slice (some ⟨w1.heap.size, 0, none⟩) 4 4).ownBlock ≠ some eb) := by
      intro h
      have h' : w1.heap.size = eb := Option.some.inj h
      omega
    clear hb1 b3 k3 HF2 KX2 c0 c1 c2 c3 c4 heb hlt2
    go_wp2
    go_loopw [5, 7] (fun v i wr => ∃ k : Nat, k ≤ 8 ∧ i = .int .i64 k ∧ Hid (Fr wr w1.heap.size v (4 + k) (pb L)) ∧ Hid (Kp w1 wr) ∧ Hid (∀ j, j < 8 → wr.cell? ⟨eb, j, none⟩ = some (.int .u8 (be E 8 j : Nat))) ∧ Hid (v.ownBlock ≠ some eb)) (fun _ i _ => 8 - (intOf i).toNat)
    case atStart => exact ⟨0, by omega, rfl, HF3, KX3, HB3.out.cell, HN3⟩
    case round =>
      clear HF3 KX3 HB3 HN3
      obtain ⟨k, hk, rfl, HF, KX, HC, HN⟩ := hrel
      by_cases hlt : k < 8
      · have f0 := HC.out k hlt
        have HE := HEP.out k hlt
        have hbe := be_lt E 8 k
        obtain ⟨x, hx⟩ : ∃ x, x = be E 8 k := ⟨_, rfl⟩
        rw [← hx] at f0 HE hbe
        have HEx : Hid (x = pb L (4 + k)) := HE
        have hlw : eb < wr.heap.size := World.block_lt_of_cell? _ _ f0
        clear hx HE
        go_wp2_with (at_builtin; refine wpList_app_u8 rfl _ _ rfl w1.heap.size _ (4 + k) (pb L) rfl (HF.out.kept ((Kp.refl wr).alloc _)) (x) _ rfl (by rw [World.cell?_alloc_at _ _ _ _ rfl]; rfl) (by omega) (by have := KX.out.size; simp; omega) ?_; intro v2 w9 f9 a9)
        have HF9 : Hid (Fr w9 w1.heap.size v2 (4 + (k + 1)) (pb L)) := f9.next (fun i _ => rfl) HEx.out
        have K9 : Hid (Kp w1 w9) := a9.kp (KX.out.alloc _) (fun b hb => (HF.out.low b hb).1)
        have HC9 : Hid (∀ j, j < 8 → w9.cell? ⟨eb, j, none⟩ = some (.int .u8 (be E 8 j : Nat))) := fun j hj => a9.cell HN.out (((Kp.refl wr).alloc _).held (HC.out j hj))
        have HN9 : Hid (v2.ownBlock ≠ some eb) := a9.ne (by simp; omega) HN.out
        clear f9 a9 f0 HF KX HC HN
        go_wp2
        go_roundw
        case rel => exact ⟨k + 1, by omega, by go_num, HF9, K9, HC9, HN9⟩
        case measure => simp [intOf]; omega
      · obtain rfl : k = 8 := by omega
        clear HC HN
        obtain ⟨c0, c1, c2, c3, c4⟩ := HLc.out.kept KX.out
        have eN : (N : Int) % 256 = N := by omega
        have eS : (S : Int) % 256 = S := by omega
        go_wp2_with (first
          | (at_builtin; refine wpList_app_u8 rfl _ _ rfl w1.heap.size _ (4 + 8) (pb L) rfl (HF.out.kept ((Kp.refl wr).alloc _)) (N) _ rfl (by rw [World.cell?_alloc_at _ _ _ _ rfl]; rfl) (by omega) (by have := KX.out.size; simp; omega) ?_; intro v2 w9 f9 a9; have HF9 : Hid (Fr w9 w1.heap.size v2 13 (pb L)) := f9.next (fun i _ => rfl) H12.out.1.symm; have K9 : Hid (Kp w1 w9) := a9.kp (KX.out.alloc _) (fun b hb => (HF.out.low b hb).1); clear f9 a9 HF KX c0 c1 c2 c3 c4; obtain ⟨c0, c1, c2, c3, c4⟩ := HLc.out.kept K9.out)
          | (at_builtin; refine wpList_app_u8 rfl _ _ rfl w1.heap.size _ (13) (pb L) rfl (HF9.out.kept ((Kp.refl w9).alloc _)) (S) _ rfl (by rw [World.cell?_alloc_at _ _ _ _ rfl]; rfl) (by omega) (by have := K9.out.size; simp; omega) ?_; intro v3 wa fa aa; have HFA : Hid (Fr wa w1.heap.size v3 14 (pb L)) := fa.next (fun i _ => rfl) H12.out.2.symm; have KA : Hid (Kp w1 wa) := aa.kp (K9.out.alloc _) (fun b hb => (HF9.out.low b hb).1); clear fa aa HF9 K9 c0 c1 c2 c3 c4))
        clear eN eS
        go_loopw [5, 8] (fun v i wr => ∃ k : Nat, k ≤ N ∧ i = .int .i64 k ∧ Hid (Fr wr w1.heap.size v (14 + k) (pb L)) ∧ Hid (Kp w1 wr)) (fun _ i _ => N - (intOf i).toNat)
        case atStart => exact ⟨0, by omega, rfl, HFA, KA⟩
        case round =>
          clear HFA KA
          obtain ⟨k, hk, rfl, HF, KX⟩ := hrel
          obtain ⟨c0, c1, c2, c3, c4⟩ := HLc.out.kept KX.out
          by_cases hlt : k < N
          · obtain rfl := i1 (by omega)
            obtain rfl := i2 (by omega)
            have d1 := (K1.out.trans KX.out).held (HA1.out k hlt)
            have d2 := (K1.out.trans KX.out).held (HA2.out k hlt)
            have hmm := HMM.out k hlt
            have hmb := HMB.out k
            have hpm := HPM.out k hlt
            obtain ⟨x, hx⟩ : ∃ x, x = L.sts.getD k 0 := ⟨_, rfl⟩
            obtain ⟨y, hy⟩ : ∃ y, y = L.mks.getD k 0 := ⟨_, rfl⟩
            rw [← hx] at d1 hmm hmb
            rw [← hy] at d2 hmm hmb
            obtain ⟨m1, m2, m3, m4⟩ := hmm
            obtain ⟨z, hz⟩ : ∃ z : Nat, 64 * x + y = z := ⟨(64 * x + y).toNat, by omega⟩
            have HZ : Hid (z = pb L (14 + k)) := by show z = _; rw [← hpm, hmb]; omega
            have hz8 : IntKind.u8.wrap (64 * x + y) = (z : Int) := by rw [IntKind.wrap_u8, hz]; omega
            have hz7 : IntKind.i64.wrap (64 * x) = 64 * x := by rw [IntKind.wrap_i64]; omega
            have hz6 : IntKind.i64.wrap (64 * x + y) = 64 * x + y := by rw [IntKind.wrap_i64]; omega
            clear hx hy hmb hz hpm
            go_wp2_with fail
            go_region_law (refine step_app_u8 (by rfl) (.tmp 54) (.tmp 68) (by rfl) w1.heap.size _ (14 + k) (pb L) (by rfl) (HF.out.kept (by first | exact ((Kp.refl wr).alloc _).drew | exact ((Kp.refl wr).drew).alloc _)) z wr.heap.size (by rfl) (by first | (rw [World.cell?_alloc_at _ _ _ _ rfl]; rfl) | (rw [World.cell?_drew, World.cell?_alloc_at _ _ _ _ rfl]; rfl)) (by omega) (by have := KX.out.size; simp; omega) ?_; intro v2 w9 f9 a9; have HF9 : Hid (Fr w9 w1.heap.size v2 (14 + (k + 1)) (pb L)) := f9.next (fun i _ => rfl) HZ.out; have K9 : Hid (Kp w1 w9) := a9.kp (KX.out.trans (by first | exact ((Kp.refl wr).alloc _).drew | exact ((Kp.refl wr).drew).alloc _)) (fun b hb => (HF.out.low b hb).1))
            all_goals (
              clear c0 c1 c2 c3 c4 d1 d2 hz8 hz7 hz6 HF KX f9 a9
              go_wp2
              go_roundw
              case rel => exact ⟨k + 1, by omega, by go_num, HF9, K9⟩
              case measure => simp [intOf]; omega)
          · obtain rfl : k = N := by omega
            go_wp2
            clear c0 c1 c2 c3 c4
            go_loopg [5] (32 - k) (fun g v wr => ∃ m : Nat, m + g = 46 ∧ 14 + k ≤ m ∧ Hid (Fr wr w1.heap.size v m (pb L)) ∧ Hid (Kp w1 wr))
            case atStart => exact ⟨14 + k, by omega, by omega, HF, KX⟩
            case round =>
              clear HF KX
              obtain ⟨m, hm, hm2, HF, KX⟩ := hrel
              obtain ⟨gr, cr, rfl⟩ := HF.out.len (by omega)
              by_cases hlt : m < 46
              · have HPm : Hid (0 = pb L m) := (HPP.out m hm2).symm
                go_wp2_with (at_builtin; refine wpList_app_u8 rfl _ _ rfl w1.heap.size _ (m) _ rfl (HF.out.kept ((Kp.refl wr).alloc _)) (0) _ rfl (by rw [World.cell?_alloc_at _ _ _ _ rfl]; rfl) (by omega) (by have := KX.out.size; simp; omega) ?_; intro v2 w9 f9 a9; have HF9 : Hid (Fr w9 w1.heap.size v2 (m + 1) (pb L)) := f9.next (fun i _ => rfl) HPm.out; have K9 : Hid (Kp w1 w9) := a9.kp (KX.out.alloc _) (fun b hb => (HF.out.low b hb).1); clear f9 a9 HF KX)
                go_roundg (gk - 1)
                case rel => exact ⟨m + 1, by omega, by omega, HF9, K9⟩
                case measure => omega
              · obtain rfl : m = 46 := by omega
                have hcv := HF.out.text (by omega)
                have hsl := rsum_any (bs 46 (pb L)) (by rw [bs_size]; omega) wr
                rw [sm_bs 46 _ (fun i _ => pb_lt HGL.out i), ← HM.out] at hsl
                obtain ⟨ST, hST⟩ : ∃ ST, ST = bs 46 (pb L) := ⟨_, rfl⟩
                rw [← hST] at hcv hsl
                clear hST
                have hb2 := big_any 4 SM wr (by omega) (by omega)
                go_wp2_with fail
                refine hsl.mono ?_; rintro e w5 ⟨rfl, rfl⟩
                clear hsl hcv
                go_wp2_with fail
                refine hb2.mono ?_; rintro e w6 ⟨rfl, b6, k6⟩
                have HF6 : Hid (Fr w6 w1.heap.size (.slice (some ⟨gr, 0, none⟩) 46 cr) (46 + 0) (sb L)) := (HF.out.kept k6).congr (fun i hi => by unfold sb; rw [if_pos hi])
                have K6 : Hid (Kp w1 w6) := KX.out.trans k6
                have HN6 : Hid ((Value.slice (some ⟨gr, 0, none⟩) 46 cr).ownBlock ≠ some w5.heap.size) := by
                  intro h
                  have h' : gr = w5.heap.size := Option.some.inj h
                  have := (HF.out.low gr rfl).2
                  omega
                obtain ⟨eb, heb⟩ : ∃ eb, eb = w5.heap.size := ⟨_, rfl⟩
                rw [← heb] at b6 HN6 ⊢
                have HB6 : Hid (Byt w6 eb 4 (be SM 4)) := b6
                clear hb2 b6 k6 HF KX heb
                go_wp2
                go_loopw [5, 11] (fun v i wr => ∃ k : Nat, k ≤ 4 ∧ i = .int .i64 k ∧ Hid (Fr wr w1.heap.size v (46 + k) (sb L)) ∧ Hid (Kp w1 wr) ∧ Hid (∀ j, j < 4 → wr.cell? ⟨eb, j, none⟩ = some (.int .u8 (be SM 4 j : Nat))) ∧ Hid (v.ownBlock ≠ some eb)) (fun _ i _ => 4 - (intOf i).toNat)
                case atStart => exact ⟨0, by omega, rfl, HF6, K6, HB6.out.cell, HN6⟩
                case round =>
                  clear HF6 K6 HB6 HN6
                  obtain ⟨j, hj, rfl, HF, KX, HC, HN⟩ := hrel
                  by_cases hlt : j < 4
                  · have f0 := HC.out j hlt
                    have hbe := be_lt SM 4 j
                    have HE : be SM 4 j = sb L (46 + j) := by unfold sb; rw [if_neg (by omega), if_pos (by omega), ← HM.out]; congr 1; omega
                    obtain ⟨x, hx⟩ : ∃ x, x = be SM 4 j := ⟨_, rfl⟩
                    rw [← hx] at f0 HE hbe
                    have HEx : Hid (x = sb L (46 + j)) := HE
                    have hlw : eb < wr.heap.size := World.block_lt_of_cell? _ _ f0
                    clear hx HE
                    go_wp2_with (at_builtin; refine wpList_app_u8 rfl _ _ rfl w1.heap.size _ (46 + j) _ rfl (HF.out.kept ((Kp.refl wr).alloc _)) (x) _ rfl (by rw [World.cell?_alloc_at _ _ _ _ rfl]; rfl) (by omega) (by have := KX.out.size; simp; omega) ?_; intro v2 w9 f9 a9; have HF9 : Hid (Fr w9 w1.heap.size v2 (46 + (j + 1)) (sb L)) := f9.next (fun i _ => rfl) HEx.out; have K9 : Hid (Kp w1 w9) := a9.kp (KX.out.alloc _) (fun b hb => (HF.out.low b hb).1); have HC9 : Hid (∀ j, j < 4 → w9.cell? ⟨eb, j, none⟩ = some (.int .u8 (be SM 4 j : Nat))) := fun j hj => a9.cell HN.out (((Kp.refl wr).alloc _).held (HC.out j hj)); have HN9 : Hid (v2.ownBlock ≠ some eb) := a9.ne (by simp; omega) HN.out; clear f9 a9 f0 HF KX HC HN)
                    go_roundw
                    case rel => exact ⟨j + 1, by omega, by go_num, HF9, K9, HC9, HN9⟩
                    case measure => simp [intOf]; omega
                  · obtain rfl : j = 4 := by omega
                    clear HC HN
                    go_wp2
                    go_loopg [5] 14 (fun g v wr => ∃ m : Nat, m + g = 64 ∧ 50 ≤ m ∧ Hid (Fr wr w1.heap.size v m (sb L)) ∧ Hid (Kp w1 wr))
                    case atStart => exact ⟨50, by omega, by omega, HF, KX⟩
                    case round =>
                      clear HF KX
                      obtain ⟨m, hm, hm2, HF, KX⟩ := hrel
                      obtain ⟨gr, cr, rfl⟩ := HF.out.len (by omega)
                      by_cases hlt : m < 64
                      · have HPm : Hid (0 = sb L m) := by show 0 = _; unfold sb; rw [if_neg (by omega), if_neg (by omega)]
                        go_wp2_with (at_builtin; refine wpList_app_u8 rfl _ _ rfl w1.heap.size _ (m) _ rfl (HF.out.kept ((Kp.refl wr).alloc _)) (0) _ rfl (by rw [World.cell?_alloc_at _ _ _ _ rfl]; rfl) (by omega) (by have := KX.out.size; simp; omega) ?_; intro v2 w9 f9 a9; have HF9 : Hid (Fr w9 w1.heap.size v2 (m + 1) (sb L)) := f9.next (fun i _ => rfl) HPm.out; have K9 : Hid (Kp w1 w9) := a9.kp (KX.out.alloc _) (fun b hb => (HF.out.low b hb).1); clear f9 a9 HF KX)
                        go_roundg (gk - 1)
                        case rel => exact ⟨m + 1, by omega, by omega, HF9, K9⟩
                        case measure => omega
                      · obtain rfl : m = 64 := by omega
                        have hcv := HF.out.text (by omega)
                        rw [← HPT.out] at hcv
                        have KF : Hid (Kp w wr) := K1.out.trans KX.out
                        clear HF KX
                        go_wp2
                        go_ret2
                        exact ⟨rfl, KF.out⟩

end Go.Proofs.Ytobpgfnmhpgkeaa
