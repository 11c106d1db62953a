/-
  For every two lists of texts the law function SyndromeChanges returns true (Go: trunnionlaw04.SyndromeChanges). No condition.
-/
import Derived.Test.YtjjghmdkpcbamaaRows
import Derived.Test.YtjjghmdkpcbamaaBufArgs
import Derived.Test.YtjjghmdkpcbamaaSynMore
import Derived.WalkKit
import Derived.ProofKit
import Derived.OpenShut
import Derived.SizedLaws
import Derived.ShutString
import Derived.BigQuiet
import Derived.Deep.RegionWith
import Derived.Deep.DeepCutAuto
namespace Go.Proofs.Ytjjghmdkpcbamaa.syndromeChanges
open Go.ChangeShapes Go.WideShapes Go.ChangeAt Go.RowKit
open Go.ChangeMaps (open_string shut_string)
open Go.Proofs.Ytjjghmdkpcbamaa Plain Go.BigFrame
set_option linter.unusedVariables false

theorem own : ownKnob Try.prog.godebug = none := by kernel_rfl
theorem laidOut : laidOutB Try.prog = true := by kernel_rfl
theorem cellsS : Try.prog.cellsOf 9 = 1 := by kernel_rfl
set_option maxRecDepth 100000 in
set_option maxHeartbeats 8000000 in
theorem walk_more (w : World) (a0 : Value) (l0 : List ByteArray) (b off cap : Nat) (l1 : List ByteArray) (w0 : StrsIn w a0 l0) (x0 : ∀ i, i < l0.length → (l0.getD i noS).size ≤ maxLen) (h0 : 0 < l1.length) (h1 : l1.length ≤ cap) (h2 : cap ≤ 9223372036854775807) (h40 : 40 < l1.length) (hc1 : ∀ i, i < l1.length → w.cell? ⟨b, off + i, none⟩ = some (.string (l1.getD i noS))) (z1 : ∀ i, i < l1.length → (l1.getD i noS).size ≤ 140737488351232) :
    Calls Try.prog 6 #[a0, .slice (some ⟨b, off, none⟩) l1.length cap] w fun e w' => e = .returned (.bool true) ∧ Kp w w' := by
  go_enter Try.func6, Try.ntmps6
  go_wp2_with fail
  refine (cut_any true a0 l0 x0 w w0).mono ?_; rintro e w1 ⟨v, rfl, hown, K1⟩
  have hL := cutL_small true l0 (min l0.length 34)
  obtain ⟨L, hLe⟩ : ∃ L, L = cutL true l0 (min l0.length 34) := ⟨_, rfl⟩
  have hS1 : StrsIn w1 v L := by rw [hLe]; exact StrsIn.owned (by rw [cutL_length]; exact hown)
  rw [← hLe] at hL
  have hall : ∀ s ∈ L, s.size = (cutO (l0.getD 0 noS)).size := by rw [hLe]; exact cut_sizes _ _
  have hn60 := cutO_le (l0.getD 0 noS)
  obtain ⟨n, hn⟩ : ∃ n, n = (cutO (l0.getD 0 noS)).size := ⟨_, rfl⟩
  rw [← hn] at hall hn60
  have hlen : min l0.length 34 = L.length := by rw [hLe, cutL_length]
  rw [← hLe, hlen] at hown
  clear hLe w0 hn hlen
  go_wp2_with fail
  refine (make_any v L hL w1 hS1).mono ?_; rintro e w2 ⟨rfl, k⟩
  have K2 := K1.trans k
  have hown2 := k.own hown
  clear k K1 hS1 hown
  go_wp2_with fail
  refine (wakes_any w2).mono ?_; rintro e w3 ⟨rfl, k⟩
  have K3 := K2.trans k
  have hown3 := k.own hown2
  clear k K2 hown2
  by_cases hm : mkE L = 0
  case neg =>
    have hmn : (mkE L == 0) = false := by rw [beq_eq_false_iff_ne]; exact hm
    clear hown3
    go_wp2_with fail
    refine (wakes_any w3).mono ?_; rintro e w4 ⟨rfl, k4⟩
    go_wp2
    go_ret
    exact ⟨rfl, K3.trans k4⟩
  obtain ⟨hl2, hl30, _⟩ := mk_ok hm
  have hpq := mk_all hl2 hl30 (by omega) hall
  rw [hm, hpq.2.1, hpq.2.2]
  clear hm hpq hL
  rcases hown3.2 with ⟨rfl, h00⟩ | ⟨g, cp, cur, rfl, hbg, hgg, hnc, hcm, hcs, htake⟩
  · exact absurd h00 (by omega)
  clear hgg hcs htake cur
  unfold maxLen at hcm
  obtain ⟨len, hle⟩ : ∃ len, len = L.length := ⟨_, rfl⟩
  rw [← hle] at hown3 hl2 hl30 hnc ⊢
  have HLE : Hid (len = L.length) := hle
  clear hle
  go_wp2
  go_loopw [6, 7, 34] (fun p q i wr => ∃ (k : Nat) (M : List ByteArray), k ≤ 40 ∧ i = .int .i64 k ∧ M.length = len ∧ (∀ s ∈ M, s.size = n) ∧ p = .string (parS n M) ∧ q = .string (wgtS n M) ∧ wr.ownsRow w.heap.size 9 1 (.slice (some ⟨g, 0, none⟩) len cp) len (M.map Value.string) ∧ Kp w wr) (fun _ _ i _ => 40 - (intOf i).toNat)
  case atStart => exact ⟨0, L, by omega, rfl, HLE.out.symm, hall, rfl, rfl, hown3, K3⟩
  case round =>
    obtain ⟨k, M, hk, rfl, hMl, hMs, rfl, rfl, hownM, hK⟩ := hrel
    clear hown3 K3 HLE hall
    by_cases hlt : k < 40
    · have hkl : k < l1.length := by omega
      have hck := hK.held (hc1 k hkl)
      have hsz := z1 k hkl
      obtain ⟨s, hse⟩ : ∃ s, s = l1.getD k noS := ⟨_, rfl⟩
      rw [← hse] at hck hsz
      clear hse hc1 z1
      obtain ⟨j, hj⟩ : ∃ j : Nat, j = (k * 7 + s.size) % len := ⟨_, rfl⟩
      have hjl : j < len := by rw [hj]; exact Nat.mod_lt _ (by omega)
      have HJ : Hid ((j : Int) = ((k : Int) * 7 + (s.size : Int)) % (len : Int)) := by show (j : Int) = _; rw [hj, Int.natCast_emod, Int.natCast_add, Int.natCast_mul]; rfl
      clear hj
      have hd := fun w' (t : ByteArray) (ht : t.size = n) => delta_set (by omega) (by omega) hn60 hMs j (by omega) t ht w'
      have HM : Hid (M.length = len ∧ ∀ s ∈ M, s.size = n) := ⟨hMl, hMs⟩
      have hcz := own_at hownM hMl 0 (by omega)
      have hzz : (M.getD 0 noS).size = n := hMs _ (mem_of_at M 0 (by omega))
      clear hMl hMs
      obtain ⟨p, hp⟩ : ∃ p, p = parS n M := ⟨_, rfl⟩
      obtain ⟨q, hq⟩ : ∃ p, p = wgtS n M := ⟨_, rfl⟩
      obtain ⟨o, ho⟩ : ∃ p, p = M.getD j noS := ⟨_, rfl⟩
      obtain ⟨z, hz⟩ : ∃ p, p = M.getD 0 noS := ⟨_, rfl⟩
      have HO : Hid (o = M.getD j noS) := ho
      rw [← hp, ← hq, ← ho] at hd
      rw [← hz] at hcz hzz
      rw [← hp, ← hq]
      clear hp hq ho hz
      go_upto_region 8 with fail
      go_cut [11] (fun x wx => x = .int .i64 (j : Nat) ∧ wx = wr)
      case first =>
        clear hd
        go_wp2_with fail
        go_meet
        exact ⟨by rw [HJ.out], rfl⟩
      obtain ⟨rfl, rfl⟩ := hcut
      obtain ⟨w4, hw4⟩ : ∃ w', w' = wc := ⟨_, rfl⟩
      rw [← hw4] at hownM hK hck hcz ⊢
      clear hw4
      go_upto_region 9 with fail
      go_cut [12] (fun x wx => ∃ t : ByteArray, x = .string t ∧ t.size = n ∧ Kp w4 wx)
      case first =>
        clear hd hownM
        have hmk := make60
        have hcv := conv60
        have hz60 : (zs 60).size = 60 := zs_size 60
        have hgl : g < w4.heap.size := World.block_lt_of_cell? w4 _ hcz
        have hcz1 : (w4.alloc (.cells (madeCells #[.int .u8 0] 60) 5)).cell? ⟨g, 0, none⟩ = some (.string z) := ((Kp.refl w4).alloc _).held hcz
        by_cases hsh : s.size ≤ 60
        · have hx := hsh
          go_wp2_with fail
          go_region
          go_wp2_with fail
          go_meet
          exact ⟨_, rfl, now_size _ n hn60, ((Kp.refl _).alloc _).drew⟩
        · have hx : (s.extract 0 60).size = 60 := by rw [extract_size _ _ _ (by omega)]
          go_wp2_with fail
          go_region
          go_wp2_with fail
          go_meet
          exact ⟨_, rfl, now_size _ n hn60, ((Kp.refl _).alloc _).drew⟩
      obtain ⟨t, rfl, ht, k⟩ := hcut
      obtain ⟨w5, hw5⟩ : ∃ w', w' = wc := ⟨_, rfl⟩
      rw [← hw5] at k ⊢
      clear hw5
      have K5 := hK.trans k
      have hown5 := k.own hownM
      have hcj : w5.cell? ⟨g, j, none⟩ = some (.string o) := by rw [HO.out]; exact own_at hown5 HM.out.1 j hjl
      have hd5 := hd w5 t ht
      clear hd k hK hownM hck hcz
      obtain ⟨p', hp'⟩ : ∃ p, p = parS n (M.set j t) := ⟨_, rfl⟩
      obtain ⟨q', hq'⟩ : ∃ p, p = wgtS n (M.set j t) := ⟨_, rfl⟩
      rw [← hp', ← hq'] at hd5
      have HP : Hid (p' = parS n (M.set j t) ∧ q' = wgtS n (M.set j t)) := ⟨hp', hq'⟩
      clear hp' hq'
      go_wp2_with fail
      refine hd5.mono ?_; rintro e w6 ⟨rfl, k6⟩
      have K6 := K5.trans k6
      have hown6 := k6.own hown5
      have hcj6 := k6.held hcj
      have hfj6 := hown6.frozenAt j
      clear k6 K5 hown5 hcj hd5
      go_wp2
      go_roundw
      case rel => exact ⟨k + 1, M.set j t, by omega, by go_num, by rw [List.length_set]; exact HM.out.1, set_sizes HM.out.2 ht j, by rw [HP.out.1], by rw [HP.out.2], own_set hown6 j t, K6.set g j hbg _⟩
      case measure => simp [intOf] <;> omega
    · obtain rfl : k = 40 := by omega
      have hSM : StrsIn wr (.slice (some ⟨g, 0, none⟩) len cp) M := StrsIn.owned (e := 9) (base := w.heap.size) (by rw [hMl]; exact hownM)
      have hF := fits_any (.slice (some ⟨g, 0, none⟩) len cp) M (sizes_small hn60 hMs) (parS n M) (wgtS n M) wr hSM
      rw [fits_own (by omega) (by omega) hn60 hMs] at hF
      obtain ⟨p, hp⟩ : ∃ p, p = parS n M := ⟨_, rfl⟩
      obtain ⟨q, hq⟩ : ∃ p, p = wgtS n M := ⟨_, rfl⟩
      rw [← hp, ← hq] at hF ⊢
      clear hc1 z1 hMs hownM hSM hp hq hMl
      go_wp2_with fail
      refine hF.mono ?_; rintro e w4 ⟨rfl, k4⟩
      go_wp2
      go_ret
      exact ⟨rfl, hK.trans k4⟩
set_option maxRecDepth 100000 in
set_option maxHeartbeats 8000000 in
theorem walk_few (w : World) (a0 : Value) (l0 : List ByteArray) (b off cap : Nat) (l1 : List ByteArray) (w0 : StrsIn w a0 l0) (x0 : ∀ i, i < l0.length → (l0.getD i noS).size ≤ maxLen) (h0 : 0 < l1.length) (h1 : l1.length ≤ cap) (h2 : cap ≤ 9223372036854775807) (h40 : l1.length ≤ 40) (hc1 : ∀ i, i < l1.length → w.cell? ⟨b, off + i, none⟩ = some (.string (l1.getD i noS))) (z1 : ∀ i, i < l1.length → (l1.getD i noS).size ≤ 140737488351232) :
    Calls Try.prog 6 #[a0, .slice (some ⟨b, off, none⟩) l1.length cap] w fun e w' => e = .returned (.bool true) ∧ Kp w w' := by
  go_enter Try.func6, Try.ntmps6
  go_wp2_with fail
  refine (cut_any true a0 l0 x0 w w0).mono ?_; rintro e w1 ⟨v, rfl, hown, K1⟩
  have hL := cutL_small true l0 (min l0.length 34)
  obtain ⟨L, hLe⟩ : ∃ L, L = cutL true l0 (min l0.length 34) := ⟨_, rfl⟩
  have hS1 : StrsIn w1 v L := by rw [hLe]; exact StrsIn.owned (by rw [cutL_length]; exact hown)
  rw [← hLe] at hL
  have hall : ∀ s ∈ L, s.size = (cutO (l0.getD 0 noS)).size := by rw [hLe]; exact cut_sizes _ _
  have hn60 := cutO_le (l0.getD 0 noS)
  obtain ⟨n, hn⟩ : ∃ n, n = (cutO (l0.getD 0 noS)).size := ⟨_, rfl⟩
  rw [← hn] at hall hn60
  have hlen : min l0.length 34 = L.length := by rw [hLe, cutL_length]
  rw [← hLe, hlen] at hown
  clear hLe w0 hn hlen
  go_wp2_with fail
  refine (make_any v L hL w1 hS1).mono ?_; rintro e w2 ⟨rfl, k⟩
  have K2 := K1.trans k
  have hown2 := k.own hown
  clear k K1 hS1 hown
  go_wp2_with fail
  refine (wakes_any w2).mono ?_; rintro e w3 ⟨rfl, k⟩
  have K3 := K2.trans k
  have hown3 := k.own hown2
  clear k K2 hown2
  by_cases hm : mkE L = 0
  case neg =>
    have hmn : (mkE L == 0) = false := by rw [beq_eq_false_iff_ne]; exact hm
    clear hown3
    go_wp2_with fail
    refine (wakes_any w3).mono ?_; rintro e w4 ⟨rfl, k4⟩
    go_wp2
    go_ret
    exact ⟨rfl, K3.trans k4⟩
  obtain ⟨hl2, hl30, _⟩ := mk_ok hm
  have hpq := mk_all hl2 hl30 (by omega) hall
  rw [hm, hpq.2.1, hpq.2.2]
  clear hm hpq hL
  rcases hown3.2 with ⟨rfl, h00⟩ | ⟨g, cp, cur, rfl, hbg, hgg, hnc, hcm, hcs, htake⟩
  · exact absurd h00 (by omega)
  clear hgg hcs htake cur
  unfold maxLen at hcm
  obtain ⟨len, hle⟩ : ∃ len, len = L.length := ⟨_, rfl⟩
  rw [← hle] at hown3 hl2 hl30 hnc ⊢
  have HLE : Hid (len = L.length) := hle
  clear hle
  go_wp2
  go_loopw [6, 7, 34] (fun p q i wr => ∃ (k : Nat) (M : List ByteArray), k ≤ l1.length ∧ i = .int .i64 k ∧ M.length = len ∧ (∀ s ∈ M, s.size = n) ∧ p = .string (parS n M) ∧ q = .string (wgtS n M) ∧ wr.ownsRow w.heap.size 9 1 (.slice (some ⟨g, 0, none⟩) len cp) len (M.map Value.string) ∧ Kp w wr) (fun _ _ i _ => l1.length - (intOf i).toNat)
  case atStart => exact ⟨0, L, by omega, rfl, HLE.out.symm, hall, rfl, rfl, hown3, K3⟩
  case round =>
    obtain ⟨k, M, hk, rfl, hMl, hMs, rfl, rfl, hownM, hK⟩ := hrel
    clear hown3 K3 HLE hall
    by_cases hlt : k < l1.length
    · have hkl : k < l1.length := by omega
      have hck := hK.held (hc1 k hkl)
      have hsz := z1 k hkl
      obtain ⟨s, hse⟩ : ∃ s, s = l1.getD k noS := ⟨_, rfl⟩
      rw [← hse] at hck hsz
      clear hse hc1 z1
      obtain ⟨j, hj⟩ : ∃ j : Nat, j = (k * 7 + s.size) % len := ⟨_, rfl⟩
      have hjl : j < len := by rw [hj]; exact Nat.mod_lt _ (by omega)
      have HJ : Hid ((j : Int) = ((k : Int) * 7 + (s.size : Int)) % (len : Int)) := by show (j : Int) = _; rw [hj, Int.natCast_emod, Int.natCast_add, Int.natCast_mul]; rfl
      clear hj
      have hd := fun w' (t : ByteArray) (ht : t.size = n) => delta_set (by omega) (by omega) hn60 hMs j (by omega) t ht w'
      have HM : Hid (M.length = len ∧ ∀ s ∈ M, s.size = n) := ⟨hMl, hMs⟩
      have hcz := own_at hownM hMl 0 (by omega)
      have hzz : (M.getD 0 noS).size = n := hMs _ (mem_of_at M 0 (by omega))
      clear hMl hMs
      obtain ⟨p, hp⟩ : ∃ p, p = parS n M := ⟨_, rfl⟩
      obtain ⟨q, hq⟩ : ∃ p, p = wgtS n M := ⟨_, rfl⟩
      obtain ⟨o, ho⟩ : ∃ p, p = M.getD j noS := ⟨_, rfl⟩
      obtain ⟨z, hz⟩ : ∃ p, p = M.getD 0 noS := ⟨_, rfl⟩
      have HO : Hid (o = M.getD j noS) := ho
      rw [← hp, ← hq, ← ho] at hd
      rw [← hz] at hcz hzz
      rw [← hp, ← hq]
      clear hp hq ho hz
      go_upto_region 8 with fail
      go_cut [11] (fun x wx => x = .int .i64 (j : Nat) ∧ wx = wr)
      case first =>
        clear hd
        go_wp2_with fail
        go_meet
        exact ⟨by rw [HJ.out], rfl⟩
      obtain ⟨rfl, rfl⟩ := hcut
      obtain ⟨w4, hw4⟩ : ∃ w', w' = wc := ⟨_, rfl⟩
      rw [← hw4] at hownM hK hck hcz ⊢
      clear hw4
      go_upto_region 9 with fail
      go_cut [12] (fun x wx => ∃ t : ByteArray, x = .string t ∧ t.size = n ∧ Kp w4 wx)
      case first =>
        clear hd hownM
        have hmk := make60
        have hcv := conv60
        have hz60 : (zs 60).size = 60 := zs_size 60
        have hgl : g < w4.heap.size := World.block_lt_of_cell? w4 _ hcz
        have hcz1 : (w4.alloc (.cells (madeCells #[.int .u8 0] 60) 5)).cell? ⟨g, 0, none⟩ = some (.string z) := ((Kp.refl w4).alloc _).held hcz
        by_cases hsh : s.size ≤ 60
        · have hx := hsh
          go_wp2_with fail
          go_region
          go_wp2_with fail
          go_meet
          exact ⟨_, rfl, now_size _ n hn60, ((Kp.refl _).alloc _).drew⟩
        · have hx : (s.extract 0 60).size = 60 := by rw [extract_size _ _ _ (by omega)]
          go_wp2_with fail
          go_region
          go_wp2_with fail
          go_meet
          exact ⟨_, rfl, now_size _ n hn60, ((Kp.refl _).alloc _).drew⟩
      obtain ⟨t, rfl, ht, k⟩ := hcut
      obtain ⟨w5, hw5⟩ : ∃ w', w' = wc := ⟨_, rfl⟩
      rw [← hw5] at k ⊢
      clear hw5
      have K5 := hK.trans k
      have hown5 := k.own hownM
      have hcj : w5.cell? ⟨g, j, none⟩ = some (.string o) := by rw [HO.out]; exact own_at hown5 HM.out.1 j hjl
      have hd5 := hd w5 t ht
      clear hd k hK hownM hck hcz
      obtain ⟨p', hp'⟩ : ∃ p, p = parS n (M.set j t) := ⟨_, rfl⟩
      obtain ⟨q', hq'⟩ : ∃ p, p = wgtS n (M.set j t) := ⟨_, rfl⟩
      rw [← hp', ← hq'] at hd5
      have HP : Hid (p' = parS n (M.set j t) ∧ q' = wgtS n (M.set j t)) := ⟨hp', hq'⟩
      clear hp' hq'
      go_wp2_with fail
      refine hd5.mono ?_; rintro e w6 ⟨rfl, k6⟩
      have K6 := K5.trans k6
      have hown6 := k6.own hown5
      have hcj6 := k6.held hcj
      have hfj6 := hown6.frozenAt j
      clear k6 K5 hown5 hcj hd5
      go_wp2
      go_roundw
      case rel => exact ⟨k + 1, M.set j t, by omega, by go_num, by rw [List.length_set]; exact HM.out.1, set_sizes HM.out.2 ht j, by rw [HP.out.1], by rw [HP.out.2], own_set hown6 j t, K6.set g j hbg _⟩
      case measure => simp [intOf] <;> omega
    · obtain rfl : k = l1.length := by omega
      have hSM : StrsIn wr (.slice (some ⟨g, 0, none⟩) len cp) M := StrsIn.owned (e := 9) (base := w.heap.size) (by rw [hMl]; exact hownM)
      have hF := fits_any (.slice (some ⟨g, 0, none⟩) len cp) M (sizes_small hn60 hMs) (parS n M) (wgtS n M) wr hSM
      rw [fits_own (by omega) (by omega) hn60 hMs] at hF
      obtain ⟨p, hp⟩ : ∃ p, p = parS n M := ⟨_, rfl⟩
      obtain ⟨q, hq⟩ : ∃ p, p = wgtS n M := ⟨_, rfl⟩
      rw [← hp, ← hq] at hF ⊢
      clear hc1 z1 hMs hownM hSM hp hq hMl
      go_wp2_with fail
      refine hF.mono ?_; rintro e w4 ⟨rfl, k4⟩
      go_wp2
      go_ret
      exact ⟨rfl, hK.trans k4⟩
set_option maxRecDepth 100000 in
set_option maxHeartbeats 8000000 in
theorem walk_none (w : World) (a0 : Value) (l0 : List ByteArray) (ad : Option Addr) (cap : Nat) (w0 : StrsIn w a0 l0) (x0 : ∀ i, i < l0.length → (l0.getD i noS).size ≤ maxLen) :
    Calls Try.prog 6 #[a0, .slice ad 0 cap] w fun e w' => e = .returned (.bool true) ∧ Kp w w' := by
  go_enter Try.func6, Try.ntmps6
  go_wp2_with fail
  refine (cut_any true a0 l0 x0 w w0).mono ?_; rintro e w1 ⟨v, rfl, hown, K1⟩
  have hL := cutL_small true l0 (min l0.length 34)
  obtain ⟨L, hLe⟩ : ∃ L, L = cutL true l0 (min l0.length 34) := ⟨_, rfl⟩
  have hS1 : StrsIn w1 v L := by rw [hLe]; exact StrsIn.owned (by rw [cutL_length]; exact hown)
  rw [← hLe] at hL
  have hall : ∀ s ∈ L, s.size = (cutO (l0.getD 0 noS)).size := by rw [hLe]; exact cut_sizes _ _
  have hn60 := cutO_le (l0.getD 0 noS)
  obtain ⟨n, hn⟩ : ∃ n, n = (cutO (l0.getD 0 noS)).size := ⟨_, rfl⟩
  rw [← hn] at hall hn60
  have hlen : min l0.length 34 = L.length := by rw [hLe, cutL_length]
  rw [← hLe, hlen] at hown
  clear hLe w0 hn hlen
  go_wp2_with fail
  refine (make_any v L hL w1 hS1).mono ?_; rintro e w2 ⟨rfl, k⟩
  have K2 := K1.trans k
  have hown2 := k.own hown
  clear k K1 hS1 hown
  go_wp2_with fail
  refine (wakes_any w2).mono ?_; rintro e w3 ⟨rfl, k⟩
  have K3 := K2.trans k
  have hown3 := k.own hown2
  clear k K2 hown2
  by_cases hm : mkE L = 0
  case neg =>
    have hmn : (mkE L == 0) = false := by rw [beq_eq_false_iff_ne]; exact hm
    clear hown3
    go_wp2_with fail
    refine (wakes_any w3).mono ?_; rintro e w4 ⟨rfl, k4⟩
    go_wp2
    go_ret
    exact ⟨rfl, K3.trans k4⟩
  obtain ⟨hl2, hl30, _⟩ := mk_ok hm
  have hpq := mk_all hl2 hl30 (by omega) hall
  rw [hm, hpq.2.1, hpq.2.2]
  clear hm hpq hL
  rcases hown3.2 with ⟨rfl, h00⟩ | ⟨g, cp, cur, rfl, hbg, hgg, hnc, hcm, hcs, htake⟩
  · exact absurd h00 (by omega)
  clear hgg hcs htake cur
  unfold maxLen at hcm
  obtain ⟨len, hle⟩ : ∃ len, len = L.length := ⟨_, rfl⟩
  rw [← hle] at hown3 hl2 hl30 hnc ⊢
  have HLE : Hid (len = L.length) := hle
  clear hle
  have hSM : StrsIn w3 (.slice (some ⟨g, 0, none⟩) len cp) L := StrsIn.owned (e := 9) (base := w.heap.size) (by rw [← HLE.out]; exact hown3)
  have hF := fits_any (.slice (some ⟨g, 0, none⟩) len cp) L (sizes_small hn60 hall) (parS n L) (wgtS n L) w3 hSM
  rw [fits_own (by rw [← HLE.out]; omega) (by rw [← HLE.out]; omega) hn60 hall] at hF
  obtain ⟨p, hp⟩ : ∃ p, p = parS n L := ⟨_, rfl⟩
  obtain ⟨q, hq⟩ : ∃ p, p = wgtS n L := ⟨_, rfl⟩
  rw [← hp, ← hq] at hF ⊢
  clear hall hSM hp hq hown3
  go_wp2
  refine wp_loop_rounds 1 ?_
  rw [rounds_succ]
  go_wp2_with fail
  refine hF.mono ?_; rintro e w4 ⟨rfl, k4⟩
  go_wp2
  go_ret
  exact ⟨rfl, K3.trans k4⟩
theorem walk (w : World) (a0 : Value) (l0 : List ByteArray) (a1 : Value) (l1 : List ByteArray) (w0 : StrsIn w a0 l0) (x0 : ∀ i, i < l0.length → (l0.getD i noS).size ≤ maxLen) (w1 : StrsIn w a1 l1) (x1 : ∀ i, i < l1.length → (l1.getD i noS).size ≤ maxLen) (z1 : ∀ i, i < l1.length → (l1.getD i noS).size ≤ 140737488351232) :
    Calls Try.prog 6 #[a0, a1] w fun e w' => e = .returned (.bool true) ∧ Kp w w' := by
  cases w1 with
  | empty a cap h => exact walk_none w a0 l0 a cap w0 x0
  | some b off cap l h0 h1 h2 hc =>
    have h2' : cap ≤ 9223372036854775807 := by unfold maxLen at h2; omega
    by_cases h40 : 40 < l1.length
    · exact walk_more w a0 l0 b off cap l1 w0 x0 h0 h1 h2' h40 hc z1
    · exact walk_few w a0 l0 b off cap l1 w0 x0 h0 h1 h2' (by omega) hc z1

set_option maxRecDepth 100000 in
theorem lifted (os : Os) (started : os.Started) (H : Type) (enc : TypeId × Value → H) :
    ReturnsInHanded {} Try.checked os 6 .any (Rows.syndromeChangesSpec.pre6 enc Try.prog Try.f6 Rows.syndromeChangesRow.domain false) (Rows.syndromeChangesSpec.post enc Try.prog Try.f6 false true false false) := by
  refine returnsInHanded_of_change_sized (C := Try.checked) own started (by kernel_rfl) Try.func6
    (ChangeSpec.witness6 (enc := enc) (C := Try.checked) false ⟨#[], #[.slice none 0 0, .slice none 0 0], []⟩ 8 (by kernel_rfl) (by kernel_rfl) (by kernel_rfl) (by kernel_rfl)) ?_
  intro W base args ds gs before hval0 hW hcnd hsz0 _
  have hval : ∀ (j : Nat) t v, Try.f6.params[j]? = some t → args[j]? = some v → Value.okWide Try.prog W .any base t v := hval0
  have hW' := hW
  have hlt := hW.lt
  obtain ⟨p, q, hA0, hV, rfl, hfz, hnd⟩ := hW
  have hA : DataW.TrodAll enc Try.prog W 0 (fun _ => true) true Try.f6.params.toList args.toList ds p := hA0
  have hAk := hA
  have hsz : (DataW.weightsEach Try.prog (Try.f6.params.toList ++ []) (ds ++ gs)).all (· ≤ reachBytes) = true := hsz0
  rw [Try.params6] at hA hval hsz
  obtain ⟨v0, vs0, d0, ds0, p0, q0, hargs, rfl, rfl, h0, r0⟩ := trodAll_cons hA
  obtain ⟨v1, vs1, d1, ds1, p1, q1, rfl, rfl, rfl, h1, r1⟩ := trodAll_cons r0
  obtain ⟨rfl, rfl, rfl⟩ := trodAll_nil r1
  obtain rfl : args = #[v0, v1] := by cases args; simp_all
  obtain ⟨rfl, rfl⟩ := trodVars_none hV
  obtain ⟨l0, w0, x0⟩ := open_strs Try.underlying22 Try.underlying9 cellsS (hval 0 22 v0 rfl rfl) h0
  obtain ⟨l1, w1, x1, z1⟩ := open_strs_sized Try.underlying22 Try.underlying9 cellsS (hval 1 22 v1 rfl rfl) h1 (fun n hn => by have := List.all_eq_true.1 hsz n (DataW.weights_mem_each (j := 1) rfl rfl n hn); exact of_decide_eq_true this)
  clear hA0 hval0
  simp only [List.append_nil] at hW' hAk hlt
  refine (walk W v0 l0 v1 l1 w0 x0 w1 x1 z1).mono fun e W' ⟨he, hg⟩ => ?_
  subst he
  exact ⟨_, rfl, post_kp (pv := []) hW' (fun _ _ _ => (trodAll_cons_mk (shut_bool Try.underlying4 _) trodAll_mk0)) (fun sp hsp => trodAll_stays laidOut (by rw [Try.params6]; exact of_decide_eq_true (by kernel_rfl)) hAk (fun x hx => Below.same hg (hlt x hx)) hsp) (fun _ _ => rfl) (by simp) hg⟩

theorem over : Rows.syndromeChangesRow.holds Try.pinned (OpenSpec.ofChange Rows.syndromeChangesSpec) :=
  OpenClaim.holds_of_wide 6 Try.f6 rfl rfl rfl rfl rfl rfl rfl ⟨rfl, rfl, rfl, rfl, rfl⟩ rfl rfl rfl rfl rfl (by kernel_rfl) Try.func6 (by kernel_rfl)
    (of_decide_eq_true (by kernel_rfl)) (by unfold Func.isWrapper; first | (rw [if_pos (by decide +kernel)]; kernel_rfl) | (rw [if_neg (by decide +kernel)]; exact ⟨rfl, rfl⟩))
    (fun os started H enc _ => lifted os started H enc)

end Go.Proofs.Ytjjghmdkpcbamaa.syndromeChanges
namespace Go.Proofs.Ytjjghmdkpcbamaa
theorem syndromeChanges_holds : Rows.SyndromeChangesSaid := syndromeChanges.over
end Go.Proofs.Ytjjghmdkpcbamaa
