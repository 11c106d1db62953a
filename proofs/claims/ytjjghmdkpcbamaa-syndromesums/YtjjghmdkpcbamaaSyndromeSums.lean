/-
  For every two lists of texts the law function SyndromeSums returns true (Go: trunnionlaw04.SyndromeSums). No condition.
-/
import Derived.Test.YtjjghmdkpcbamaaRows
import Derived.Test.YtjjghmdkpcbamaaBufArgs
import Derived.Test.YtjjghmdkpcbamaaSynSums
import Derived.WalkKit
import Derived.ProofKit
import Derived.OpenShut
import Derived.ShutString
import Derived.BigQuiet
import Derived.Deep.RegionWith
import Derived.Deep.DeepCutAuto
import Derived.Deep.RegionLaw
import Derived.Deep.RegionHeld3
namespace Go.Proofs.Ytjjghmdkpcbamaa.syndromeSums
open Go.ChangeShapes Go.WideShapes Go.ChangeAt Go.RowKit
open Go.ChangeMaps (open_string shut_string)
open Go.Proofs.Ytjjghmdkpcbamaa Plain Go.BigFrame
set_option linter.unusedVariables false

theorem own : ownKnob Try.prog.godebug = none := by kernel_rfl
theorem laidOut : laidOutB Try.prog = true := by kernel_rfl
theorem cellsS : Try.prog.cellsOf 9 = 1 := by kernel_rfl
set_option maxRecDepth 100000 in
set_option maxHeartbeats 8000000 in
theorem walk_none (w : World) (a0 : Value) (l0 : List ByteArray) (ad : Option Addr) (cap : Nat) (w0 : StrsIn w a0 l0) (x0 : ∀ i, i < l0.length → (l0.getD i noS).size ≤ maxLen) :
    Calls Try.prog 7 #[a0, .slice ad 0 cap] w fun e w' => e = .returned (.bool true) ∧ Kp w w' := by
  obtain ⟨i0, hi0, hz0, hz1, hz2⟩ := info_parts info_str
  go_enter Try.func7, Try.ntmps7
  go_wp2_with fail
  refine (cut_any true a0 l0 x0 w w0).mono ?_; rintro e w1 ⟨v, rfl, hown, K1⟩
  have hL := cutL_small true l0 (min l0.length 34)
  obtain ⟨L, hLe⟩ : ∃ L, L = cutL true l0 (min l0.length 34) := ⟨_, rfl⟩
  have hall : ∀ s ∈ L, s.size = (cutO (l0.getD 0 noS)).size := by rw [hLe]; exact cut_sizes _ _
  have hn60 := cutO_le (l0.getD 0 noS)
  obtain ⟨n, hn⟩ : ∃ n, n = (cutO (l0.getD 0 noS)).size := ⟨_, rfl⟩
  rw [← hn] at hall hn60
  have hlen : min l0.length 34 = L.length := by rw [hLe, cutL_length]
  rw [← hLe, hlen] at hown
  clear hLe w0 hn hlen hL
  obtain ⟨len, hle⟩ : ∃ len, len = L.length := ⟨_, rfl⟩
  rw [← hle] at hown
  have HLE : Hid (len = L.length) := hle
  clear hle
  rcases hown.2 with ⟨rfl, h00⟩ | ⟨g, cp, cur, rfl, hbg, hgg, hnc, hcm, hcs, htake⟩
  · subst h00
    clear hown
    go_wp2_with fail
    refine (wakes_any w1).mono ?_; rintro e wz ⟨rfl, kz⟩
    go_wp2
    go_ret
    exact ⟨rfl, K1.trans kz⟩
  clear hgg hcs htake cur
  unfold maxLen at hcm
  by_cases hl2 : len < 2
  · clear hown
    go_wp2_with fail
    refine (wakes_any w1).mono ?_; rintro e wz ⟨rfl, kz⟩
    go_wp2
    go_ret
    exact ⟨rfl, K1.trans kz⟩
  by_cases hl30 : 30 < len
  · clear hown
    go_wp2_with fail
    refine (wakes_any w1).mono ?_; rintro e wz ⟨rfl, kz⟩
    go_wp2
    go_ret
    exact ⟨rfl, K1.trans kz⟩
  have hl2' : 2 ≤ len := by omega
  have hl30' : len ≤ 30 := by omega
  clear hl2 hl30
  go_wp2
  go_loopw [6, 7, 36] (fun m b i wr => ∃ (k : Nat) (T : List ByteArray), k ≤ len ∧ i = .int .i64 k ∧ T.length = k ∧ (∀ s ∈ T, s.size = n) ∧ wr.ownsRow w.heap.size 9 1 m k (T.map Value.string) ∧ wr.ownsRow w.heap.size 9 1 b k ((addT (L.take k) T).map Value.string) ∧ wr.ownsRow w.heap.size 9 1 (.slice (some ⟨g, 0, none⟩) len cp) len (L.map Value.string) ∧ (∀ x, m.ownBlock = some x → b.ownBlock ≠ some x ∧ x ≠ g) ∧ b.ownBlock ≠ some g ∧ Kp w wr) (fun _ _ i _ => len - (intOf i).toNat)
  case atStart => exact ⟨0, [], by omega, rfl, rfl, (fun s hs => nomatch hs), World.ownsRow_nil _ _ _ _, World.ownsRow_nil _ _ _ _, hown, (fun x hx => nomatch hx), (fun h => nomatch h), K1⟩
  case round =>
    obtain ⟨k, T, hk, rfl, hTl, hTs, o1, o2, o3, d1, d2, hK⟩ := hrel
    clear hown K1
    by_cases hlt : k < len
    · obtain ⟨w3, hw3⟩ : ∃ w', w' = wr := ⟨_, rfl⟩
      rw [← hw3] at o1 o2 o3 hK ⊢
      clear hw3
      have hck := own_at o3 HLE.out.symm k hlt
      have hsz : (L.getD k noS).size = n := hall _ (mem_of_at L k (by rw [← HLE.out]; exact hlt))
      obtain ⟨s, hse⟩ : ∃ s, s = L.getD k noS := ⟨_, rfl⟩
      rw [← hse] at hck hsz
      have HS : Hid (s = L.getD k noS) := hse
      have HT : Hid (T.length = k ∧ ∀ s ∈ T, s.size = n) := ⟨hTl, hTs⟩
      clear hse hTl hTs
      go_upto_region 11 with fail
      go_cut [10] (fun x wx => ∃ t : ByteArray, x = .string t ∧ t.size = n ∧ Kp w3 wx)
      case first =>
        clear o1 o2 o3 hck
        have hz60 : (zs 60).size = 60 := zs_size 60
        have hmk := make60 w3
        have hcv := conv60' w3
        go_wp2_with fail
        go_meet
        exact ⟨_, rfl, now_size _ n hn60, (Kp.refl _).alloc _⟩
      obtain ⟨t, rfl, hts, k4⟩ := hcut
      obtain ⟨w4, hw4⟩ : ∃ w', w' = wc := ⟨_, rfl⟩
      rw [← hw4] at k4 ⊢
      clear hw4
      have K4 := hK.trans k4
      have p1 := k4.own o1
      have p2 := k4.own o2
      have p3 := k4.own o3
      clear hK k4 o1 o2 o3 hck
      obtain ⟨c, W5, hcv, k5, hB5, hBy⟩ := bytes_of w4 s
      rw [hsz] at hcv hBy
      rw [half_zero s t] at hBy
      go_upto_region 13 with fail
      obtain ⟨B, hBe⟩ : ∃ B, B = w4.heap.size := ⟨_, rfl⟩
      have HBe : Hid (B = w4.heap.size) := hBe
      rw [← hBe] at hB5 hBy ⊢
      clear hBe hcv
      go_wp2
      go_loopw [67] (fun i wr => ∃ q : Nat, q ≤ n ∧ i = .int .i64 q ∧ Byt wr B n (halfF s t q) ∧ Kp w4 wr ∧ B < wr.heap.size) (fun i _ => n - (intOf i).toNat)
      case atStart => exact ⟨0, by omega, rfl, hBy, k5, hB5⟩
      case round =>
        obtain ⟨q, hq, rfl, hBq, k6, hB6⟩ := hrel
        clear hBy k5 hB5
        by_cases hqn : q < n
        · have hqt : q < t.size := by omega
          have hcq := hBq.cell q hqn
          have hfq := hBq.free q hqn
          have hst := hBq.step
          rw [show halfF s t q q = bAt s (q : Int) by unfold halfF; rw [if_neg (by omega)]] at hcq
          have hx : bits .xor .u8 ((bAt s (q : Int) : Nat) : Int) (((t[q]'hqt).toNat : Nat) : Int) = ((bAt s (q : Int) ^^^ bAt t (q : Int) : Nat) : Int) := by rw [bAt_nat t q hqt]; exact u8_xor_nat _ _ (bAt_lt _ _) (UInt8.toNat_lt _)
          obtain ⟨u, hu⟩ : ∃ u, u = bAt s (q : Int) ^^^ bAt t (q : Int) := ⟨_, rfl⟩
          obtain ⟨u0, hu0⟩ : ∃ u, u = bAt s (q : Int) := ⟨_, rfl⟩
          rw [← hu] at hx hst
          rw [← hu0] at hx hcq
          have HST : Hid (Byt (wr.setCell ⟨B, q, none⟩ (.int .u8 (u : Int))) B n (halfF s t (q + 1))) := hst
          clear hu hu0 hst hBq p1 p2 p3
          go_wp2_with fail
          go_region
          go_wp2
          go_roundw
          case rel => exact ⟨q + 1, by omega, by go_num, ⟨HST.out.cell, HST.out.free⟩, (k6.set B q (Nat.le_of_eq HBe.out.symm) _).drew, by show B < (wr.setCell ⟨B, q, none⟩ (.int .u8 (u : Int))).heap.size; rw [show (wr.setCell ⟨B, q, none⟩ (.int .u8 (u : Int))).heap.size = wr.heap.size from World.size_setCell _ _ _]; exact hB6⟩
          case measure => simp [intOf] <;> omega
        · obtain rfl : q = n := by omega
          obtain ⟨w6, hw6⟩ : ∃ w', w' = wr := ⟨_, rfl⟩
          rw [← hw6] at hBq k6 hB6 ⊢
          clear hw6
          have hxt := half_full s t q hts
          obtain ⟨x, hx⟩ : ∃ x, x = foldS s 1 t := ⟨_, rfl⟩
          rw [← hx] at hxt
          have HX : Hid (x = foldS s 1 t) := hx
          clear hx
          have r1 := k6.own p1
          have r2 := k6.own p2
          have r3 := k6.own p3
          have K6 := K4.trans k6
          have b1 : ∀ z, u6.ownBlock = some z → z < B := fun z hz => by rw [HBe.out]; exact (p1.lt z hz).2
          have b2 : ∀ z, u7.ownBlock = some z → z < B := fun z hz => by rw [HBe.out]; exact (p2.lt z hz).2
          clear p1 p2 p3 k6 K4
          have hb6 : w.heap.size ≤ w6.heap.size := K6.size
          have hk100 : k ≤ 100 := by omega
          have hcv0 : (convert 40 9 (.slice (some ⟨B, 0, none⟩) q c)).run Try.prog w6.drew = .ok (.string x) w6.drew := by rw [← hxt]; exact Byt.text (W := w6.drew) ⟨hBq.cell, hBq.free⟩ c
          have hcv1 : (convert 40 9 (.slice (some ⟨B, 0, none⟩) q c)).run Try.prog (w6.alloc (.cells #[.string t] 9)).drew = .ok (.string x) (w6.alloc (.cells #[.string t] 9)).drew := by rw [← hxt]; exact Byt.text (hBq.kept ((Kp.refl w6).alloc _).drew hB6) c
          have HXT : Hid (bs q (halfF s t q) = x) := hxt
          clear hxt
          go_upto_region 18 with fail
          go_region_law (first
            | (refine app_step (by rfl) (.tmp 80) (.tmp 82) (by rfl) r1 (by first | exact ((Kp.refl _).alloc _).drew | exact (((Kp.refl _).alloc _).alloc _).drew) (by rfl) _ t (by rfl) (by simp) hk100 hb6 ?_; intro g1 c1 w7 s1 hg1 hat1 hl1; obtain ⟨s2, s3, hB7, K7, hc7, e1, e2⟩ := after1 (by first | exact ((Kp.refl _).alloc _).drew | exact (((Kp.refl _).alloc _).alloc _).drew) hg1 hat1 K6 r1 r2 r3 d1 hBq hB6 b1; have hcv7 := hB7.text c; rw [HXT.out] at hcv7)
            | (refine app_step (by rfl) (.tmp 84) (.tmp 87) (by rfl) s2 (by first | exact Kp.refl _ | exact (Kp.refl _).alloc _) (by rfl) _ x (by rfl) (by first | (refine hc7 _ _ ?_ ?_ <;> (simp; done)) | (simp; done)) hk100 K7.size ?_; intro g2 c2 w8 t2 hg2 hat2 hl2; obtain ⟨t1, t3, K8, f1, f2⟩ := after2 (by first | exact Kp.refl _ | exact (Kp.refl _).alloc _) hg2 hat2 K7 s1 s2 s3 e1 d2))
          all_goals (
            go_wp2
            go_roundw
            (case rel => exact ⟨k + 1, T ++ [t], by omega, by go_num, by rw [List.length_append, HT.out.1]; rfl, snoc_sizes HT.out.2 hts, by rw [List.map_append]; exact t1, by rw [addT_snoc L T k (by rw [← HLE.out]; exact hlt) HT.out.1 t, List.map_append, ← HS.out, ← HX.out]; exact t2, t3, apart_mk f1 e2, apart_mk2 f2, K8⟩)
            (case measure => simp [intOf] <;> omega))
    · have hkl : k = len := by omega
      subst hkl
      have eL : L.take k = L := by rw [HLE.out, List.take_length]
      rw [eL] at o2
      have hTL : T.length = L.length := by rw [hTl]; exact HLE.out
      have hAl := addT_length L T hTL
      have hAs := addT_sizes L T hTs
      have c2 : 2 ≤ L.length := by rw [← HLE.out]; exact hl2'
      have c30 : L.length ≤ 30 := by rw [← HLE.out]; exact hl30'
      have S1 : StrsIn wr (.slice (some ⟨g, 0, none⟩) k cp) L := StrsIn.owned (base := w.heap.size) (e := 9) (by rw [← HLE.out]; exact o3)
      have S2 : StrsIn wr u6 T := StrsIn.owned (base := w.heap.size) (e := 9) (by rw [hTl]; exact o1)
      have S3 : StrsIn wr u7 (addT L T) := StrsIn.owned (base := w.heap.size) (e := 9) (by rw [hAl, ← HLE.out]; exact o2)
      have M1 := make_all c2 c30 hn60 hall S1
      have M2 := fun w' (q : Kp wr w') => make_all (by rw [hTL]; exact c2) (by rw [hTL]; exact c30) hn60 hTs (S2.kept q)
      have M3 := fun w' (q : Kp wr w') => make_all (by rw [hAl]; exact c2) (by rw [hAl]; exact c30) hn60 hAs (S3.kept q)
      have E1 := fun (i : Nat) (h : i < n) => par_sum h L T hTL hall hTs
      have E2 := fun (i : Nat) (h : i < n) => wgt_sum h L T hTL hTs
      have z1 := parS_size n L hall
      have z2 := wgtS_size n L
      have z3 := parS_size n T hTs
      have z4 := wgtS_size n T
      have z5 := parS_size n _ hAs
      have z6 := wgtS_size n (addT L T)
      obtain ⟨p, hp⟩ : ∃ p, p = parS n L := ⟨_, rfl⟩
      obtain ⟨q, hq⟩ : ∃ p, p = wgtS n L := ⟨_, rfl⟩
      obtain ⟨r, hr⟩ : ∃ p, p = parS n T := ⟨_, rfl⟩
      obtain ⟨s, hs⟩ : ∃ p, p = wgtS n T := ⟨_, rfl⟩
      obtain ⟨x, hx⟩ : ∃ p, p = parS n (addT L T) := ⟨_, rfl⟩
      obtain ⟨y, hy⟩ : ∃ p, p = wgtS n (addT L T) := ⟨_, rfl⟩
      rw [← hp, ← hq] at M1
      rw [← hr, ← hs] at M2
      rw [← hx, ← hy] at M3
      rw [← hp, ← hr, ← hx] at E1
      rw [← hq, ← hs, ← hy] at E2
      rw [← hp] at z1
      rw [← hq] at z2
      rw [← hr] at z3
      rw [← hs] at z4
      rw [← hx] at z5
      rw [← hy] at z6
      clear hp hq hr hs hx hy S1 S2 S3 c2 c30 hAs hAl hTL eL hTl hTs o1 o2 o3 d1 d2 hall
      have HE : Hid ((∀ i, i < n → bAt p (i : Int) ^^^ bAt r (i : Int) = bAt x (i : Int)) ∧ ∀ i, i < n → bAt q (i : Int) ^^^ bAt s (i : Int) = bAt y (i : Int)) := ⟨E1, E2⟩
      clear E1 E2
      go_wp2_with fail
      refine M1.mono ?_; rintro e w4 ⟨rfl, k4⟩
      go_wp2_with fail
      refine (M2 w4 k4).mono ?_; rintro e w5 ⟨rfl, k5⟩
      go_wp2_with fail
      refine (M3 w5 (k4.trans k5)).mono ?_; rintro e w6 ⟨rfl, k6⟩
      have K6 := hK.trans (k4.trans (k5.trans k6))
      clear M1 M2 M3 k4 k5 k6 hK
      go_wp2_with fail
      refine (wakes_any w6).mono ?_; rintro e w7 ⟨rfl, k7⟩
      have K7 := K6.trans k7
      clear k7 K6
      go_wp2
      go_loopw [159] (fun i wr => ∃ j : Nat, j ≤ n ∧ i = .int .i64 j ∧ Kp w wr) (fun i _ => n - (intOf i).toNat)
      case atStart => exact ⟨0, by omega, rfl, K7⟩
      case round =>
        obtain ⟨j, hj, rfl, K8⟩ := hrel
        clear K7
        by_cases hjn : j < n
        · have j1 : j < p.size := by omega
          have j2 : j < q.size := by omega
          have j3 : j < r.size := by omega
          have j4 : j < s.size := by omega
          have j5 : j < x.size := by omega
          have j6 : j < y.size := by omega
          have hx1 : bits .xor .u8 (((p[j]'j1).toNat : Nat) : Int) (((r[j]'j3).toNat : Nat) : Int) = (((x[j]'j5).toNat : Nat) : Int) := by
            have := HE.out.1 j hjn
            rw [bAt_nat p j j1, bAt_nat r j j3, bAt_nat x j j5] at this
            rw [← this]; exact u8_xor_nat _ _ (UInt8.toNat_lt _) (UInt8.toNat_lt _)
          have hx2 : bits .xor .u8 (((q[j]'j2).toNat : Nat) : Int) (((s[j]'j4).toNat : Nat) : Int) = (((y[j]'j6).toNat : Nat) : Int) := by
            have := HE.out.2 j hjn
            rw [bAt_nat q j j2, bAt_nat s j j4, bAt_nat y j j6] at this
            rw [← this]; exact u8_xor_nat _ _ (UInt8.toNat_lt _) (UInt8.toNat_lt _)
          go_wp2_with fail
          refine wp_region_kp (by kernel_rfl) (by kernel_rfl) ?_
          repeat (first
            | go_big_quiet_skip
            | (go_big_quiet_want; go_big_quiet_op; go_big_quiet_on))
          refine wpQuiet_nil ?_
          rintro w9 ⟨pp, hpp⟩
          have k9 : Kp wr w9 := by rw [hpp]; exact kpw_kp _ _
          clear hpp
          go_wp2
          go_roundw
          case rel => exact ⟨j + 1, by omega, by go_num, K8.trans k9⟩
          case measure => simp [intOf] <;> omega
        · obtain rfl : j = n := by omega
          go_wp2
          go_ret
          exact ⟨rfl, K8⟩
set_option maxRecDepth 100000 in
set_option maxHeartbeats 8000000 in
theorem walk_some (w : World) (a0 : Value) (l0 : List ByteArray) (b off cap : Nat) (l1 : List ByteArray) (w0 : StrsIn w a0 l0) (x0 : ∀ i, i < l0.length → (l0.getD i noS).size ≤ maxLen) (h1 : l1.length ≤ cap) (h2 : cap ≤ 9223372036854775807) (hc1 : ∀ i, i < l1.length → w.cell? ⟨b, off + i, none⟩ = some (.string (l1.getD i noS))) (x1 : ∀ i, i < l1.length → (l1.getD i noS).size ≤ maxLen) :
    Calls Try.prog 7 #[a0, .slice (some ⟨b, off, none⟩) l1.length cap] w fun e w' => e = .returned (.bool true) ∧ Kp w w' := by
  obtain ⟨i0, hi0, hz0, hz1, hz2⟩ := info_parts info_str
  go_enter Try.func7, Try.ntmps7
  go_wp2_with fail
  refine (cut_any true a0 l0 x0 w w0).mono ?_; rintro e w1 ⟨v, rfl, hown, K1⟩
  have hL := cutL_small true l0 (min l0.length 34)
  obtain ⟨L, hLe⟩ : ∃ L, L = cutL true l0 (min l0.length 34) := ⟨_, rfl⟩
  have hall : ∀ s ∈ L, s.size = (cutO (l0.getD 0 noS)).size := by rw [hLe]; exact cut_sizes _ _
  have hn60 := cutO_le (l0.getD 0 noS)
  obtain ⟨n, hn⟩ : ∃ n, n = (cutO (l0.getD 0 noS)).size := ⟨_, rfl⟩
  rw [← hn] at hall hn60
  have hlen : min l0.length 34 = L.length := by rw [hLe, cutL_length]
  rw [← hLe, hlen] at hown
  clear hLe w0 hn hlen hL
  obtain ⟨len, hle⟩ : ∃ len, len = L.length := ⟨_, rfl⟩
  rw [← hle] at hown
  have HLE : Hid (len = L.length) := hle
  clear hle
  rcases hown.2 with ⟨rfl, h00⟩ | ⟨g, cp, cur, rfl, hbg, hgg, hnc, hcm, hcs, htake⟩
  · subst h00
    clear hown
    go_wp2_with fail
    refine (wakes_any w1).mono ?_; rintro e wz ⟨rfl, kz⟩
    go_wp2
    go_ret
    exact ⟨rfl, K1.trans kz⟩
  clear hgg hcs htake cur
  unfold maxLen at hcm
  by_cases hl2 : len < 2
  · clear hown
    go_wp2_with fail
    refine (wakes_any w1).mono ?_; rintro e wz ⟨rfl, kz⟩
    go_wp2
    go_ret
    exact ⟨rfl, K1.trans kz⟩
  by_cases hl30 : 30 < len
  · clear hown
    go_wp2_with fail
    refine (wakes_any w1).mono ?_; rintro e wz ⟨rfl, kz⟩
    go_wp2
    go_ret
    exact ⟨rfl, K1.trans kz⟩
  have hl2' : 2 ≤ len := by omega
  have hl30' : len ≤ 30 := by omega
  clear hl2 hl30
  go_wp2
  go_loopw [6, 7, 36] (fun m b i wr => ∃ (k : Nat) (T : List ByteArray), k ≤ len ∧ i = .int .i64 k ∧ T.length = k ∧ (∀ s ∈ T, s.size = n) ∧ wr.ownsRow w.heap.size 9 1 m k (T.map Value.string) ∧ wr.ownsRow w.heap.size 9 1 b k ((addT (L.take k) T).map Value.string) ∧ wr.ownsRow w.heap.size 9 1 (.slice (some ⟨g, 0, none⟩) len cp) len (L.map Value.string) ∧ (∀ x, m.ownBlock = some x → b.ownBlock ≠ some x ∧ x ≠ g) ∧ b.ownBlock ≠ some g ∧ Kp w wr) (fun _ _ i _ => len - (intOf i).toNat)
  case atStart => exact ⟨0, [], by omega, rfl, rfl, (fun s hs => nomatch hs), World.ownsRow_nil _ _ _ _, World.ownsRow_nil _ _ _ _, hown, (fun x hx => nomatch hx), (fun h => nomatch h), K1⟩
  case round =>
    obtain ⟨k, T, hk, rfl, hTl, hTs, o1, o2, o3, d1, d2, hK⟩ := hrel
    clear hown K1
    by_cases hlt : k < len
    · obtain ⟨w3, hw3⟩ : ∃ w', w' = wr := ⟨_, rfl⟩
      rw [← hw3] at o1 o2 o3 hK ⊢
      clear hw3
      have hck := own_at o3 HLE.out.symm k hlt
      have hsz : (L.getD k noS).size = n := hall _ (mem_of_at L k (by rw [← HLE.out]; exact hlt))
      obtain ⟨s, hse⟩ : ∃ s, s = L.getD k noS := ⟨_, rfl⟩
      rw [← hse] at hck hsz
      have HS : Hid (s = L.getD k noS) := hse
      have HT : Hid (T.length = k ∧ ∀ s ∈ T, s.size = n) := ⟨hTl, hTs⟩
      clear hse hTl hTs
      by_cases hkl : k < l1.length
      · have hcr := hK.held (hc1 k hkl)
        have hrs := x1 k hkl
        unfold maxLen at hrs
        obtain ⟨r, hre⟩ : ∃ r, r = l1.getD k noS := ⟨_, rfl⟩
        rw [← hre] at hcr hrs
        clear hre
        by_cases hsh : r.size ≤ 60
        · have hx0 := hsh
          go_upto_region 10 with fail
          go_region
          obtain ⟨wd, hwd⟩ : ∃ w', w' = w3.drew := ⟨_, rfl⟩
          have kd : Kp w3 wd := by rw [hwd]; exact (Kp.refl w3).drew
          rw [← hwd]
          replace o1 := kd.own o1
          replace o2 := kd.own o2
          replace o3 := kd.own o3
          replace hck := kd.held hck
          replace hK := hK.trans kd
          clear hwd kd hcr
          go_upto_region 11 with fail
          go_cut [10] (fun x wx => ∃ t : ByteArray, x = .string t ∧ t.size = n ∧ Kp wd wx)
          case first =>
            clear o1 o2 o3 hck
            have hz60 : (zs 60).size = 60 := zs_size 60
            have hmk := make60 wd
            have hcv := conv60' wd
            go_wp2_with fail
            go_meet
            exact ⟨_, rfl, now_size _ n hn60, (Kp.refl _).alloc _⟩
          obtain ⟨t, rfl, hts, k4⟩ := hcut
          obtain ⟨w4, hw4⟩ : ∃ w', w' = wc := ⟨_, rfl⟩
          rw [← hw4] at k4 ⊢
          clear hw4
          have K4 := hK.trans k4
          have p1 := k4.own o1
          have p2 := k4.own o2
          have p3 := k4.own o3
          clear hK k4 o1 o2 o3 hck
          obtain ⟨c, W5, hcv, k5, hB5, hBy⟩ := bytes_of w4 s
          rw [hsz] at hcv hBy
          rw [half_zero s t] at hBy
          go_upto_region 13 with fail
          obtain ⟨B, hBe⟩ : ∃ B, B = w4.heap.size := ⟨_, rfl⟩
          have HBe : Hid (B = w4.heap.size) := hBe
          rw [← hBe] at hB5 hBy ⊢
          clear hBe hcv
          go_wp2
          go_loopw [67] (fun i wr => ∃ q : Nat, q ≤ n ∧ i = .int .i64 q ∧ Byt wr B n (halfF s t q) ∧ Kp w4 wr ∧ B < wr.heap.size) (fun i _ => n - (intOf i).toNat)
          case atStart => exact ⟨0, by omega, rfl, hBy, k5, hB5⟩
          case round =>
            obtain ⟨q, hq, rfl, hBq, k6, hB6⟩ := hrel
            clear hBy k5 hB5
            by_cases hqn : q < n
            · have hqt : q < t.size := by omega
              have hcq := hBq.cell q hqn
              have hfq := hBq.free q hqn
              have hst := hBq.step
              rw [show halfF s t q q = bAt s (q : Int) by unfold halfF; rw [if_neg (by omega)]] at hcq
              have hx : bits .xor .u8 ((bAt s (q : Int) : Nat) : Int) (((t[q]'hqt).toNat : Nat) : Int) = ((bAt s (q : Int) ^^^ bAt t (q : Int) : Nat) : Int) := by rw [bAt_nat t q hqt]; exact u8_xor_nat _ _ (bAt_lt _ _) (UInt8.toNat_lt _)
              obtain ⟨u, hu⟩ : ∃ u, u = bAt s (q : Int) ^^^ bAt t (q : Int) := ⟨_, rfl⟩
              obtain ⟨u0, hu0⟩ : ∃ u, u = bAt s (q : Int) := ⟨_, rfl⟩
              rw [← hu] at hx hst
              rw [← hu0] at hx hcq
              have HST : Hid (Byt (wr.setCell ⟨B, q, none⟩ (.int .u8 (u : Int))) B n (halfF s t (q + 1))) := hst
              clear hu hu0 hst hBq p1 p2 p3
              go_wp2_with fail
              go_region
              go_wp2
              go_roundw
              case rel => exact ⟨q + 1, by omega, by go_num, ⟨HST.out.cell, HST.out.free⟩, (k6.set B q (Nat.le_of_eq HBe.out.symm) _).drew, by show B < (wr.setCell ⟨B, q, none⟩ (.int .u8 (u : Int))).heap.size; rw [show (wr.setCell ⟨B, q, none⟩ (.int .u8 (u : Int))).heap.size = wr.heap.size from World.size_setCell _ _ _]; exact hB6⟩
              case measure => simp [intOf] <;> omega
            · obtain rfl : q = n := by omega
              obtain ⟨w6, hw6⟩ : ∃ w', w' = wr := ⟨_, rfl⟩
              rw [← hw6] at hBq k6 hB6 ⊢
              clear hw6
              have hxt := half_full s t q hts
              obtain ⟨x, hx⟩ : ∃ x, x = foldS s 1 t := ⟨_, rfl⟩
              rw [← hx] at hxt
              have HX : Hid (x = foldS s 1 t) := hx
              clear hx
              have r1 := k6.own p1
              have r2 := k6.own p2
              have r3 := k6.own p3
              have K6 := K4.trans k6
              have b1 : ∀ z, u6.ownBlock = some z → z < B := fun z hz => by rw [HBe.out]; exact (p1.lt z hz).2
              have b2 : ∀ z, u7.ownBlock = some z → z < B := fun z hz => by rw [HBe.out]; exact (p2.lt z hz).2
              clear p1 p2 p3 k6 K4
              have hb6 : w.heap.size ≤ w6.heap.size := K6.size
              have hk100 : k ≤ 100 := by omega
              have hcv0 : (convert 40 9 (.slice (some ⟨B, 0, none⟩) q c)).run Try.prog w6.drew = .ok (.string x) w6.drew := by rw [← hxt]; exact Byt.text (W := w6.drew) ⟨hBq.cell, hBq.free⟩ c
              have hcv1 : (convert 40 9 (.slice (some ⟨B, 0, none⟩) q c)).run Try.prog (w6.alloc (.cells #[.string t] 9)).drew = .ok (.string x) (w6.alloc (.cells #[.string t] 9)).drew := by rw [← hxt]; exact Byt.text (hBq.kept ((Kp.refl w6).alloc _).drew hB6) c
              have HXT : Hid (bs q (halfF s t q) = x) := hxt
              clear hxt
              go_upto_region 18 with fail
              go_region_law (first
                | (refine app_step (by rfl) (.tmp 80) (.tmp 82) (by rfl) r1 (by first | exact ((Kp.refl _).alloc _).drew | exact (((Kp.refl _).alloc _).alloc _).drew) (by rfl) _ t (by rfl) (by simp) hk100 hb6 ?_; intro g1 c1 w7 s1 hg1 hat1 hl1; obtain ⟨s2, s3, hB7, K7, hc7, e1, e2⟩ := after1 (by first | exact ((Kp.refl _).alloc _).drew | exact (((Kp.refl _).alloc _).alloc _).drew) hg1 hat1 K6 r1 r2 r3 d1 hBq hB6 b1; have hcv7 := hB7.text c; rw [HXT.out] at hcv7)
                | (refine app_step (by rfl) (.tmp 84) (.tmp 87) (by rfl) s2 (by first | exact Kp.refl _ | exact (Kp.refl _).alloc _) (by rfl) _ x (by rfl) (by first | (refine hc7 _ _ ?_ ?_ <;> (simp; done)) | (simp; done)) hk100 K7.size ?_; intro g2 c2 w8 t2 hg2 hat2 hl2; obtain ⟨t1, t3, K8, f1, f2⟩ := after2 (by first | exact Kp.refl _ | exact (Kp.refl _).alloc _) hg2 hat2 K7 s1 s2 s3 e1 d2))
              all_goals (
                go_wp2
                go_roundw
                (case rel => exact ⟨k + 1, T ++ [t], by omega, by go_num, by rw [List.length_append, HT.out.1]; rfl, snoc_sizes HT.out.2 hts, by rw [List.map_append]; exact t1, by rw [addT_snoc L T k (by rw [← HLE.out]; exact hlt) HT.out.1 t, List.map_append, ← HS.out, ← HX.out]; exact t2, t3, apart_mk f1 e2, apart_mk2 f2, K8⟩)
                (case measure => simp [intOf] <;> omega))
        · have hx0 : (r.extract 0 60).size = 60 := by rw [extract_size _ _ _ (by omega)]
          go_upto_region 10 with fail
          go_region
          obtain ⟨wd, hwd⟩ : ∃ w', w' = w3.drew := ⟨_, rfl⟩
          have kd : Kp w3 wd := by rw [hwd]; exact (Kp.refl w3).drew
          rw [← hwd]
          replace o1 := kd.own o1
          replace o2 := kd.own o2
          replace o3 := kd.own o3
          replace hck := kd.held hck
          replace hK := hK.trans kd
          clear hwd kd hcr
          go_upto_region 11 with fail
          go_cut [10] (fun x wx => ∃ t : ByteArray, x = .string t ∧ t.size = n ∧ Kp wd wx)
          case first =>
            clear o1 o2 o3 hck
            have hz60 : (zs 60).size = 60 := zs_size 60
            have hmk := make60 wd
            have hcv := conv60' wd
            go_wp2_with fail
            go_meet
            exact ⟨_, rfl, now_size _ n hn60, (Kp.refl _).alloc _⟩
          obtain ⟨t, rfl, hts, k4⟩ := hcut
          obtain ⟨w4, hw4⟩ : ∃ w', w' = wc := ⟨_, rfl⟩
          rw [← hw4] at k4 ⊢
          clear hw4
          have K4 := hK.trans k4
          have p1 := k4.own o1
          have p2 := k4.own o2
          have p3 := k4.own o3
          clear hK k4 o1 o2 o3 hck
          obtain ⟨c, W5, hcv, k5, hB5, hBy⟩ := bytes_of w4 s
          rw [hsz] at hcv hBy
          rw [half_zero s t] at hBy
          go_upto_region 13 with fail
          obtain ⟨B, hBe⟩ : ∃ B, B = w4.heap.size := ⟨_, rfl⟩
          have HBe : Hid (B = w4.heap.size) := hBe
          rw [← hBe] at hB5 hBy ⊢
          clear hBe hcv
          go_wp2
          go_loopw [67] (fun i wr => ∃ q : Nat, q ≤ n ∧ i = .int .i64 q ∧ Byt wr B n (halfF s t q) ∧ Kp w4 wr ∧ B < wr.heap.size) (fun i _ => n - (intOf i).toNat)
          case atStart => exact ⟨0, by omega, rfl, hBy, k5, hB5⟩
          case round =>
            obtain ⟨q, hq, rfl, hBq, k6, hB6⟩ := hrel
            clear hBy k5 hB5
            by_cases hqn : q < n
            · have hqt : q < t.size := by omega
              have hcq := hBq.cell q hqn
              have hfq := hBq.free q hqn
              have hst := hBq.step
              rw [show halfF s t q q = bAt s (q : Int) by unfold halfF; rw [if_neg (by omega)]] at hcq
              have hx : bits .xor .u8 ((bAt s (q : Int) : Nat) : Int) (((t[q]'hqt).toNat : Nat) : Int) = ((bAt s (q : Int) ^^^ bAt t (q : Int) : Nat) : Int) := by rw [bAt_nat t q hqt]; exact u8_xor_nat _ _ (bAt_lt _ _) (UInt8.toNat_lt _)
              obtain ⟨u, hu⟩ : ∃ u, u = bAt s (q : Int) ^^^ bAt t (q : Int) := ⟨_, rfl⟩
              obtain ⟨u0, hu0⟩ : ∃ u, u = bAt s (q : Int) := ⟨_, rfl⟩
              rw [← hu] at hx hst
              rw [← hu0] at hx hcq
              have HST : Hid (Byt (wr.setCell ⟨B, q, none⟩ (.int .u8 (u : Int))) B n (halfF s t (q + 1))) := hst
              clear hu hu0 hst hBq p1 p2 p3
              go_wp2_with fail
              go_region
              go_wp2
              go_roundw
              case rel => exact ⟨q + 1, by omega, by go_num, ⟨HST.out.cell, HST.out.free⟩, (k6.set B q (Nat.le_of_eq HBe.out.symm) _).drew, by show B < (wr.setCell ⟨B, q, none⟩ (.int .u8 (u : Int))).heap.size; rw [show (wr.setCell ⟨B, q, none⟩ (.int .u8 (u : Int))).heap.size = wr.heap.size from World.size_setCell _ _ _]; exact hB6⟩
              case measure => simp [intOf] <;> omega
            · obtain rfl : q = n := by omega
              obtain ⟨w6, hw6⟩ : ∃ w', w' = wr := ⟨_, rfl⟩
              rw [← hw6] at hBq k6 hB6 ⊢
              clear hw6
              have hxt := half_full s t q hts
              obtain ⟨x, hx⟩ : ∃ x, x = foldS s 1 t := ⟨_, rfl⟩
              rw [← hx] at hxt
              have HX : Hid (x = foldS s 1 t) := hx
              clear hx
              have r1 := k6.own p1
              have r2 := k6.own p2
              have r3 := k6.own p3
              have K6 := K4.trans k6
              have b1 : ∀ z, u6.ownBlock = some z → z < B := fun z hz => by rw [HBe.out]; exact (p1.lt z hz).2
              have b2 : ∀ z, u7.ownBlock = some z → z < B := fun z hz => by rw [HBe.out]; exact (p2.lt z hz).2
              clear p1 p2 p3 k6 K4
              have hb6 : w.heap.size ≤ w6.heap.size := K6.size
              have hk100 : k ≤ 100 := by omega
              have hcv0 : (convert 40 9 (.slice (some ⟨B, 0, none⟩) q c)).run Try.prog w6.drew = .ok (.string x) w6.drew := by rw [← hxt]; exact Byt.text (W := w6.drew) ⟨hBq.cell, hBq.free⟩ c
              have hcv1 : (convert 40 9 (.slice (some ⟨B, 0, none⟩) q c)).run Try.prog (w6.alloc (.cells #[.string t] 9)).drew = .ok (.string x) (w6.alloc (.cells #[.string t] 9)).drew := by rw [← hxt]; exact Byt.text (hBq.kept ((Kp.refl w6).alloc _).drew hB6) c
              have HXT : Hid (bs q (halfF s t q) = x) := hxt
              clear hxt
              go_upto_region 18 with fail
              go_region_law (first
                | (refine app_step (by rfl) (.tmp 80) (.tmp 82) (by rfl) r1 (by first | exact ((Kp.refl _).alloc _).drew | exact (((Kp.refl _).alloc _).alloc _).drew) (by rfl) _ t (by rfl) (by simp) hk100 hb6 ?_; intro g1 c1 w7 s1 hg1 hat1 hl1; obtain ⟨s2, s3, hB7, K7, hc7, e1, e2⟩ := after1 (by first | exact ((Kp.refl _).alloc _).drew | exact (((Kp.refl _).alloc _).alloc _).drew) hg1 hat1 K6 r1 r2 r3 d1 hBq hB6 b1; have hcv7 := hB7.text c; rw [HXT.out] at hcv7)
                | (refine app_step (by rfl) (.tmp 84) (.tmp 87) (by rfl) s2 (by first | exact Kp.refl _ | exact (Kp.refl _).alloc _) (by rfl) _ x (by rfl) (by first | (refine hc7 _ _ ?_ ?_ <;> (simp; done)) | (simp; done)) hk100 K7.size ?_; intro g2 c2 w8 t2 hg2 hat2 hl2; obtain ⟨t1, t3, K8, f1, f2⟩ := after2 (by first | exact Kp.refl _ | exact (Kp.refl _).alloc _) hg2 hat2 K7 s1 s2 s3 e1 d2))
              all_goals (
                go_wp2
                go_roundw
                (case rel => exact ⟨k + 1, T ++ [t], by omega, by go_num, by rw [List.length_append, HT.out.1]; rfl, snoc_sizes HT.out.2 hts, by rw [List.map_append]; exact t1, by rw [addT_snoc L T k (by rw [← HLE.out]; exact hlt) HT.out.1 t, List.map_append, ← HS.out, ← HX.out]; exact t2, t3, apart_mk f1 e2, apart_mk2 f2, K8⟩)
                (case measure => simp [intOf] <;> omega))
      · have hkl' : l1.length ≤ k := by omega
        go_upto_region 11 with fail
        go_cut [10] (fun x wx => ∃ t : ByteArray, x = .string t ∧ t.size = n ∧ Kp w3 wx)
        case first =>
          clear o1 o2 o3 hck
          have hz60 : (zs 60).size = 60 := zs_size 60
          have hmk := make60 w3
          have hcv := conv60' w3
          go_wp2_with fail
          go_meet
          exact ⟨_, rfl, now_size _ n hn60, (Kp.refl _).alloc _⟩
        obtain ⟨t, rfl, hts, k4⟩ := hcut
        obtain ⟨w4, hw4⟩ : ∃ w', w' = wc := ⟨_, rfl⟩
        rw [← hw4] at k4 ⊢
        clear hw4
        have K4 := hK.trans k4
        have p1 := k4.own o1
        have p2 := k4.own o2
        have p3 := k4.own o3
        clear hK k4 o1 o2 o3 hck
        obtain ⟨c, W5, hcv, k5, hB5, hBy⟩ := bytes_of w4 s
        rw [hsz] at hcv hBy
        rw [half_zero s t] at hBy
        go_upto_region 13 with fail
        obtain ⟨B, hBe⟩ : ∃ B, B = w4.heap.size := ⟨_, rfl⟩
        have HBe : Hid (B = w4.heap.size) := hBe
        rw [← hBe] at hB5 hBy ⊢
        clear hBe hcv
        go_wp2
        go_loopw [67] (fun i wr => ∃ q : Nat, q ≤ n ∧ i = .int .i64 q ∧ Byt wr B n (halfF s t q) ∧ Kp w4 wr ∧ B < wr.heap.size) (fun i _ => n - (intOf i).toNat)
        case atStart => exact ⟨0, by omega, rfl, hBy, k5, hB5⟩
        case round =>
          obtain ⟨q, hq, rfl, hBq, k6, hB6⟩ := hrel
          clear hBy k5 hB5
          by_cases hqn : q < n
          · have hqt : q < t.size := by omega
            have hcq := hBq.cell q hqn
            have hfq := hBq.free q hqn
            have hst := hBq.step
            rw [show halfF s t q q = bAt s (q : Int) by unfold halfF; rw [if_neg (by omega)]] at hcq
            have hx : bits .xor .u8 ((bAt s (q : Int) : Nat) : Int) (((t[q]'hqt).toNat : Nat) : Int) = ((bAt s (q : Int) ^^^ bAt t (q : Int) : Nat) : Int) := by rw [bAt_nat t q hqt]; exact u8_xor_nat _ _ (bAt_lt _ _) (UInt8.toNat_lt _)
            obtain ⟨u, hu⟩ : ∃ u, u = bAt s (q : Int) ^^^ bAt t (q : Int) := ⟨_, rfl⟩
            obtain ⟨u0, hu0⟩ : ∃ u, u = bAt s (q : Int) := ⟨_, rfl⟩
            rw [← hu] at hx hst
            rw [← hu0] at hx hcq
            have HST : Hid (Byt (wr.setCell ⟨B, q, none⟩ (.int .u8 (u : Int))) B n (halfF s t (q + 1))) := hst
            clear hu hu0 hst hBq p1 p2 p3
            go_wp2_with fail
            go_region
            go_wp2
            go_roundw
            case rel => exact ⟨q + 1, by omega, by go_num, ⟨HST.out.cell, HST.out.free⟩, (k6.set B q (Nat.le_of_eq HBe.out.symm) _).drew, by show B < (wr.setCell ⟨B, q, none⟩ (.int .u8 (u : Int))).heap.size; rw [show (wr.setCell ⟨B, q, none⟩ (.int .u8 (u : Int))).heap.size = wr.heap.size from World.size_setCell _ _ _]; exact hB6⟩
            case measure => simp [intOf] <;> omega
          · obtain rfl : q = n := by omega
            obtain ⟨w6, hw6⟩ : ∃ w', w' = wr := ⟨_, rfl⟩
            rw [← hw6] at hBq k6 hB6 ⊢
            clear hw6
            have hxt := half_full s t q hts
            obtain ⟨x, hx⟩ : ∃ x, x = foldS s 1 t := ⟨_, rfl⟩
            rw [← hx] at hxt
            have HX : Hid (x = foldS s 1 t) := hx
            clear hx
            have r1 := k6.own p1
            have r2 := k6.own p2
            have r3 := k6.own p3
            have K6 := K4.trans k6
            have b1 : ∀ z, u6.ownBlock = some z → z < B := fun z hz => by rw [HBe.out]; exact (p1.lt z hz).2
            have b2 : ∀ z, u7.ownBlock = some z → z < B := fun z hz => by rw [HBe.out]; exact (p2.lt z hz).2
            clear p1 p2 p3 k6 K4
            have hb6 : w.heap.size ≤ w6.heap.size := K6.size
            have hk100 : k ≤ 100 := by omega
            have hcv0 : (convert 40 9 (.slice (some ⟨B, 0, none⟩) q c)).run Try.prog w6.drew = .ok (.string x) w6.drew := by rw [← hxt]; exact Byt.text (W := w6.drew) ⟨hBq.cell, hBq.free⟩ c
            have hcv1 : (convert 40 9 (.slice (some ⟨B, 0, none⟩) q c)).run Try.prog (w6.alloc (.cells #[.string t] 9)).drew = .ok (.string x) (w6.alloc (.cells #[.string t] 9)).drew := by rw [← hxt]; exact Byt.text (hBq.kept ((Kp.refl w6).alloc _).drew hB6) c
            have HXT : Hid (bs q (halfF s t q) = x) := hxt
            clear hxt
            go_upto_region 18 with fail
            go_region_law (first
              | (refine app_step (by rfl) (.tmp 80) (.tmp 82) (by rfl) r1 (by first | exact ((Kp.refl _).alloc _).drew | exact (((Kp.refl _).alloc _).alloc _).drew) (by rfl) _ t (by rfl) (by simp) hk100 hb6 ?_; intro g1 c1 w7 s1 hg1 hat1 hl1; obtain ⟨s2, s3, hB7, K7, hc7, e1, e2⟩ := after1 (by first | exact ((Kp.refl _).alloc _).drew | exact (((Kp.refl _).alloc _).alloc _).drew) hg1 hat1 K6 r1 r2 r3 d1 hBq hB6 b1; have hcv7 := hB7.text c; rw [HXT.out] at hcv7)
              | (refine app_step (by rfl) (.tmp 84) (.tmp 87) (by rfl) s2 (by first | exact Kp.refl _ | exact (Kp.refl _).alloc _) (by rfl) _ x (by rfl) (by first | (refine hc7 _ _ ?_ ?_ <;> (simp; done)) | (simp; done)) hk100 K7.size ?_; intro g2 c2 w8 t2 hg2 hat2 hl2; obtain ⟨t1, t3, K8, f1, f2⟩ := after2 (by first | exact Kp.refl _ | exact (Kp.refl _).alloc _) hg2 hat2 K7 s1 s2 s3 e1 d2))
            all_goals (
              go_wp2
              go_roundw
              (case rel => exact ⟨k + 1, T ++ [t], by omega, by go_num, by rw [List.length_append, HT.out.1]; rfl, snoc_sizes HT.out.2 hts, by rw [List.map_append]; exact t1, by rw [addT_snoc L T k (by rw [← HLE.out]; exact hlt) HT.out.1 t, List.map_append, ← HS.out, ← HX.out]; exact t2, t3, apart_mk f1 e2, apart_mk2 f2, K8⟩)
              (case measure => simp [intOf] <;> omega))
    · have hkl : k = len := by omega
      subst hkl
      have eL : L.take k = L := by rw [HLE.out, List.take_length]
      rw [eL] at o2
      have hTL : T.length = L.length := by rw [hTl]; exact HLE.out
      have hAl := addT_length L T hTL
      have hAs := addT_sizes L T hTs
      have c2 : 2 ≤ L.length := by rw [← HLE.out]; exact hl2'
      have c30 : L.length ≤ 30 := by rw [← HLE.out]; exact hl30'
      have S1 : StrsIn wr (.slice (some ⟨g, 0, none⟩) k cp) L := StrsIn.owned (base := w.heap.size) (e := 9) (by rw [← HLE.out]; exact o3)
      have S2 : StrsIn wr u6 T := StrsIn.owned (base := w.heap.size) (e := 9) (by rw [hTl]; exact o1)
      have S3 : StrsIn wr u7 (addT L T) := StrsIn.owned (base := w.heap.size) (e := 9) (by rw [hAl, ← HLE.out]; exact o2)
      have M1 := make_all c2 c30 hn60 hall S1
      have M2 := fun w' (q : Kp wr w') => make_all (by rw [hTL]; exact c2) (by rw [hTL]; exact c30) hn60 hTs (S2.kept q)
      have M3 := fun w' (q : Kp wr w') => make_all (by rw [hAl]; exact c2) (by rw [hAl]; exact c30) hn60 hAs (S3.kept q)
      have E1 := fun (i : Nat) (h : i < n) => par_sum h L T hTL hall hTs
      have E2 := fun (i : Nat) (h : i < n) => wgt_sum h L T hTL hTs
      have z1 := parS_size n L hall
      have z2 := wgtS_size n L
      have z3 := parS_size n T hTs
      have z4 := wgtS_size n T
      have z5 := parS_size n _ hAs
      have z6 := wgtS_size n (addT L T)
      obtain ⟨p, hp⟩ : ∃ p, p = parS n L := ⟨_, rfl⟩
      obtain ⟨q, hq⟩ : ∃ p, p = wgtS n L := ⟨_, rfl⟩
      obtain ⟨r, hr⟩ : ∃ p, p = parS n T := ⟨_, rfl⟩
      obtain ⟨s, hs⟩ : ∃ p, p = wgtS n T := ⟨_, rfl⟩
      obtain ⟨x, hx⟩ : ∃ p, p = parS n (addT L T) := ⟨_, rfl⟩
      obtain ⟨y, hy⟩ : ∃ p, p = wgtS n (addT L T) := ⟨_, rfl⟩
      rw [← hp, ← hq] at M1
      rw [← hr, ← hs] at M2
      rw [← hx, ← hy] at M3
      rw [← hp, ← hr, ← hx] at E1
      rw [← hq, ← hs, ← hy] at E2
      rw [← hp] at z1
      rw [← hq] at z2
      rw [← hr] at z3
      rw [← hs] at z4
      rw [← hx] at z5
      rw [← hy] at z6
      clear hp hq hr hs hx hy S1 S2 S3 c2 c30 hAs hAl hTL eL hTl hTs o1 o2 o3 d1 d2 hall
      have HE : Hid ((∀ i, i < n → bAt p (i : Int) ^^^ bAt r (i : Int) = bAt x (i : Int)) ∧ ∀ i, i < n → bAt q (i : Int) ^^^ bAt s (i : Int) = bAt y (i : Int)) := ⟨E1, E2⟩
      clear E1 E2
      go_wp2_with fail
      refine M1.mono ?_; rintro e w4 ⟨rfl, k4⟩
      go_wp2_with fail
      refine (M2 w4 k4).mono ?_; rintro e w5 ⟨rfl, k5⟩
      go_wp2_with fail
      refine (M3 w5 (k4.trans k5)).mono ?_; rintro e w6 ⟨rfl, k6⟩
      have K6 := hK.trans (k4.trans (k5.trans k6))
      clear M1 M2 M3 k4 k5 k6 hK
      go_wp2_with fail
      refine (wakes_any w6).mono ?_; rintro e w7 ⟨rfl, k7⟩
      have K7 := K6.trans k7
      clear k7 K6
      go_wp2
      go_loopw [159] (fun i wr => ∃ j : Nat, j ≤ n ∧ i = .int .i64 j ∧ Kp w wr) (fun i _ => n - (intOf i).toNat)
      case atStart => exact ⟨0, by omega, rfl, K7⟩
      case round =>
        obtain ⟨j, hj, rfl, K8⟩ := hrel
        clear K7
        by_cases hjn : j < n
        · have j1 : j < p.size := by omega
          have j2 : j < q.size := by omega
          have j3 : j < r.size := by omega
          have j4 : j < s.size := by omega
          have j5 : j < x.size := by omega
          have j6 : j < y.size := by omega
          have hx1 : bits .xor .u8 (((p[j]'j1).toNat : Nat) : Int) (((r[j]'j3).toNat : Nat) : Int) = (((x[j]'j5).toNat : Nat) : Int) := by
            have := HE.out.1 j hjn
            rw [bAt_nat p j j1, bAt_nat r j j3, bAt_nat x j j5] at this
            rw [← this]; exact u8_xor_nat _ _ (UInt8.toNat_lt _) (UInt8.toNat_lt _)
          have hx2 : bits .xor .u8 (((q[j]'j2).toNat : Nat) : Int) (((s[j]'j4).toNat : Nat) : Int) = (((y[j]'j6).toNat : Nat) : Int) := by
            have := HE.out.2 j hjn
            rw [bAt_nat q j j2, bAt_nat s j j4, bAt_nat y j j6] at this
            rw [← this]; exact u8_xor_nat _ _ (UInt8.toNat_lt _) (UInt8.toNat_lt _)
          go_wp2_with fail
          refine wp_region_kp (by kernel_rfl) (by kernel_rfl) ?_
          repeat (first
            | go_big_quiet_skip
            | (go_big_quiet_want; go_big_quiet_op; go_big_quiet_on))
          refine wpQuiet_nil ?_
          rintro w9 ⟨pp, hpp⟩
          have k9 : Kp wr w9 := by rw [hpp]; exact kpw_kp _ _
          clear hpp
          go_wp2
          go_roundw
          case rel => exact ⟨j + 1, by omega, by go_num, K8.trans k9⟩
          case measure => simp [intOf] <;> omega
        · obtain rfl : j = n := by omega
          go_wp2
          go_ret
          exact ⟨rfl, K8⟩
theorem walk (w : World) (a0 : Value) (l0 : List ByteArray) (a1 : Value) (l1 : List ByteArray) (w0 : StrsIn w a0 l0) (x0 : ∀ i, i < l0.length → (l0.getD i noS).size ≤ maxLen) (w1 : StrsIn w a1 l1) (x1 : ∀ i, i < l1.length → (l1.getD i noS).size ≤ maxLen) :
    Calls Try.prog 7 #[a0, a1] w fun e w' => e = .returned (.bool true) ∧ Kp w w' := by
  cases w1 with
  | empty a cap h => exact walk_none w a0 l0 a cap w0 x0
  | some b off cap l h0 h1 h2 hc => exact walk_some w a0 l0 b off cap l1 w0 x0 h1 (by unfold maxLen at h2; omega) hc x1

set_option maxRecDepth 100000 in
theorem lifted (os : Os) (started : os.Started) (H : Type) (enc : TypeId × Value → H) :
    ReturnsInHanded {} Try.checked os 7 .any (Rows.syndromeSumsSpec.pre6 enc Try.prog Try.f7 Rows.syndromeSumsRow.domain false) (Rows.syndromeSumsSpec.post enc Try.prog Try.f7 false true false false) := by
  refine returnsInHanded_of_change (C := Try.checked) own started (by kernel_rfl) Try.func7
    (ChangeSpec.witness6 (enc := enc) (C := Try.checked) false ⟨#[], #[.slice none 0 0, .slice none 0 0], []⟩ 8 (by kernel_rfl) (by kernel_rfl) (by kernel_rfl) (by kernel_rfl)) ?_
  intro W base args ds gs before hval0 hW hcnd _
  have hval : ∀ (j : Nat) t v, Try.f7.params[j]? = some t → args[j]? = some v → Value.okWide Try.prog W .any base t v := hval0
  have hW' := hW
  have hlt := hW.lt
  obtain ⟨p, q, hA0, hV, rfl, hfz, hnd⟩ := hW
  have hA : DataW.TrodAll enc Try.prog W 0 (fun _ => true) true Try.f7.params.toList args.toList ds p := hA0
  have hAk := hA
  rw [Try.params7] at hA hval
  obtain ⟨v0, vs0, d0, ds0, p0, q0, hargs, rfl, rfl, h0, r0⟩ := trodAll_cons hA
  obtain ⟨v1, vs1, d1, ds1, p1, q1, rfl, rfl, rfl, h1, r1⟩ := trodAll_cons r0
  obtain ⟨rfl, rfl, rfl⟩ := trodAll_nil r1
  obtain rfl : args = #[v0, v1] := by cases args; simp_all
  obtain ⟨rfl, rfl⟩ := trodVars_none hV
  obtain ⟨l0, w0, x0⟩ := open_strs Try.underlying22 Try.underlying9 cellsS (hval 0 22 v0 rfl rfl) h0
  obtain ⟨l1, w1, x1⟩ := open_strs Try.underlying22 Try.underlying9 cellsS (hval 1 22 v1 rfl rfl) h1
  clear hA0 hval0
  simp only [List.append_nil] at hW' hAk hlt
  refine (walk W v0 l0 v1 l1 w0 x0 w1 x1).mono fun e W' ⟨he, hg⟩ => ?_
  subst he
  exact ⟨_, rfl, post_kp (pv := []) hW' (fun _ _ _ => (trodAll_cons_mk (shut_bool Try.underlying4 _) trodAll_mk0)) (fun sp hsp => trodAll_stays laidOut (by rw [Try.params7]; exact of_decide_eq_true (by kernel_rfl)) hAk (fun x hx => Below.same hg (hlt x hx)) hsp) (fun _ _ => rfl) (by simp) hg⟩

theorem over : Rows.syndromeSumsRow.holds Try.pinned (OpenSpec.ofChange Rows.syndromeSumsSpec) :=
  OpenClaim.holds_of_wide 7 Try.f7 rfl rfl rfl rfl rfl rfl rfl ⟨rfl, rfl, rfl, rfl, rfl⟩ rfl rfl rfl rfl rfl (by kernel_rfl) Try.func7 (by kernel_rfl)
    (of_decide_eq_true (by kernel_rfl)) (by unfold Func.isWrapper; first | (rw [if_pos (by decide +kernel)]; kernel_rfl) | (rw [if_neg (by decide +kernel)]; exact ⟨rfl, rfl⟩))
    (fun os started H enc _ => lifted os started H enc)

end Go.Proofs.Ytjjghmdkpcbamaa.syndromeSums
namespace Go.Proofs.Ytjjghmdkpcbamaa
theorem syndromeSums_holds : Rows.SyndromeSumsSaid := syndromeSums.over
end Go.Proofs.Ytjjghmdkpcbamaa
