/-
  Contracts of Keys and next: whose turn it is. Conditions: that the object lies in memory as LX says.
-/
import Derived.Test.YtcmomebjkbhboaaLfSort
namespace Go.Proofs.Ytcmomebjkbhboaa
open Go.RowKit Plain
set_option linter.unusedVariables false

set_option maxRecDepth 100000 in
set_option maxHeartbeats 4000000 in
theorem keys_any {w0 w : World} {a : Nat} {T : List Nat} {S : LS} (h : LX w0 w a T S) (hl : S.L.length ≤ 1000) : Calls Try.prog 20 #[.pointer (some ⟨a, 0, none⟩)] w fun e w' => ∃ u, e = .returned u ∧ OwnI w' w.heap.size u (rsL S.L) ∧ Kp w w' := by
  obtain ⟨v, rfl, h1, h2, h3, h4, h5⟩ := h
  obtain ⟨p, g, cap, rfl, hp, hle, hcp, hc⟩ := h3.cells
  have c0 := cell_of h1 0
  unfold rsL
  obtain ⟨l, hL⟩ : ∃ l, l = S.L := ⟨_, rfl⟩
  rw [← hL] at hp hle hc hl ⊢
  obtain ⟨n, hn⟩ : ∃ n, n = l.length := ⟨_, rfl⟩
  have c1 : w.cell? ⟨a, 0, none⟩ = some (.slice p n cap) := by rw [hn, hL]; exact c0
  rw [← hn] at hp hle hc hl
  have HN := hid hn
  have HC : Hid (∀ i, i < n → w.cell? ⟨g, i * 2, none⟩ = some (.int .i64 (l.getD i wz).k) ∧ w.cell? ⟨g, i * 2 + 1, none⟩ = some (.int .i64 (l.getD i wz).n)) := hc
  have HP : Hid (0 < n → p = some ⟨g, 0, none⟩) := fun h => (hp h).1
  obtain ⟨i0, hi, hz0, hz1, hz2⟩ := info_parts info_int
  obtain ⟨W, hrun, hO, hG⟩ := run_make_own (P := Try.prog) w w.heap.size 43 3 i0 (.int .i64 0) 1 Try.underlying43 hi hz0 hz1 .i64 .i64 n (by rw [hz2]; omega) (by unfold maxLen; omega) (Nat.le_refl _)
  have kW : Kp w W := (Kp.refl w).grown hG (fun k hk => by cases hk)
  have HO : Hid (OwnI W w.heap.size (.slice (some ⟨w.heap.size, 0, none⟩) 0 n) ((l.take 0).map Wt.k) ∧ Kp w W) := ⟨hO, kW⟩
  have c2 := kW.held c1
  clear h1 h2 h3 h4 h5 hL hn hc hp c0 hi hz0 hz1 hz2 hO hG kW
  go_enter Try.func20, Try.ntmps20
  go_wp2
  go_loopw [19, 3] (fun i q wr => ∃ (k : Nat) (u : Value), i = .int .i64 k ∧ u = q ∧ k ≤ n ∧ Hid (OwnI wr w.heap.size u ((l.take k).map Wt.k) ∧ Kp w wr)) (fun i _ _ => n - (intOf i).toNat)
  case atStart => exact ⟨0, _, rfl, rfl, by omega, HO⟩
  case round =>
    clear HO hrun c2
    obtain ⟨k, q, rfl, rfl, hk, HQ⟩ := hrel
    by_cases hkn : k < n
    · obtain rfl := HP.out (by omega)
      have hkl : k < l.length := by have := HN.out; omega
      obtain ⟨d0, d1⟩ := HC.out k hkn
      have d0 := HQ.out.2.held d0
      have d1 := HQ.out.2.held d1
      obtain ⟨y, hy⟩ : ∃ y, y = l.getD k wz := ⟨_, rfl⟩
      rw [← hy] at d0 d1
      have HT : Hid ((l.take (k + 1)).map Wt.k = (l.take k).map Wt.k ++ [y.k]) := by show _ = _; rw [take_wt hkl, ← hy, List.map_append]; rfl
      have HLn : Hid (((l.take k).map Wt.k).length + 1 ≤ 1099511627776) := by show _ ≤ _; rw [List.length_map, List.length_take]; omega
      have hkn2 : (k : Int) < (n : Int) := by omega
      clear hy
      have HSz : Hid (w.heap.size ≤ wr.heap.size) := HQ.out.2.size
      go_wp2_with (at_builtin; refine wpList_append_int rfl _ _ rfl w.heap.size _ ((l.take k).map Wt.k) rfl ((HQ.out.1.alloc _).alloc _) y.k _ rfl (by rw [World.cell?_alloc_at _ _ _ _ (by simp)]; rfl) (by have := HLn.out; omega) (by have := HSz.out; simp; omega) ?_; intro u2 w2 ho2 hg2)
      have HQ2 : Hid (OwnI w2 w.heap.size u2 ((l.take (k + 1)).map Wt.k) ∧ Kp w w2) := ⟨by rw [HT.out]; exact ho2, ((HQ.out.2.alloc _).alloc _).grown hg2 (fun g hg => (HQ.out.1.lt g hg).1)⟩
      clear ho2 hg2 HT HLn HQ d0 d1
      go_roundw
      case rel => exact ⟨k + 1, _, by go_num, rfl, by omega, HQ2⟩
      case measure => simp [intOf]; omega
    · obtain rfl : k = n := by omega
      have hT : l.take k = l := List.take_of_length_le (by have := HN.out; omega)
      have hO := HQ.out.1
      rw [hT] at hO
      have hS := sort_any w.heap.size q (l.map Wt.k) (by rw [List.length_map]; have := HN.out; omega) wr hO
      have HOQ : Hid (∀ g, q.ownBlock = some g → w.heap.size ≤ g) := fun g hg => (hO.lt g hg).1
      have HK := hid HQ.out.2
      clear hT hO HQ
      go_wp2_with fail
      refine hS.mono ?_; rintro e w1 ⟨rfl, ho, hs⟩
      have HE : Hid (OwnI w1 w.heap.size q ((l.map Wt.k).mergeSort fun x y => decide (x ≤ y)) ∧ Kp w w1) := ⟨ho, Sp.kp HK.out hs (fun t ht => HOQ.out t (by simpa using ht))⟩
      clear ho hs hS HK
      go_wp2
      go_ret
      exact ⟨_, rfl, HE.out.1, HE.out.2⟩

end Go.Proofs.Ytcmomebjkbhboaa
