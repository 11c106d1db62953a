/-
  Contracts of the document's blank, New, Replace. No condition but that the member lies in memory.
-/
import Derived.Test.YtmklkdopmemfaaaMmRef2
namespace Go.Proofs.Ytmklkdopmemfaaa
open Go.RowKit Plain
set_option linter.unusedVariables false

theorem info_str : (Try.prog.info? 9).map (fun i => (i.zero, i.size, i.bytes)) = some (some (.string ByteArray.empty), 1, 16) := by kernel_rfl
/-- sectors of one's own. -/
structure Sec (w : World) (n : Nat) (v : Value) (w0 : World) : Prop where
  h : ∃ g c, v = .slice (some ⟨g, 0, none⟩) n c ∧ n ≤ c ∧ c ≤ 9223372036854775807 ∧ w0.heap.size ≤ g ∧ g < w.heap.size ∧ (∀ i, i < n → w.cell? ⟨g, i, none⟩ = some (.string z64)) ∧ ∀ i, w.frozen? ⟨g, i, none⟩ = false
set_option maxRecDepth 100000 in
set_option maxHeartbeats 1000000 in
theorem blank_any (n : Nat) (h1 : 1 ≤ n) (h2 : n ≤ 256) (w : World) : Calls Try.prog 53 #[.int .i64 (n : Int)] w fun e w' => ∃ v, e = .returned v ∧ Sec w' n v w ∧ Kp w w' := by
  obtain ⟨i0, hi0, hzz⟩ := Option.map_eq_some_iff.1 info_str
  simp only [Prod.mk.injEq] at hzz
  obtain ⟨hz0, hz1, hz2⟩ := hzz
  have hmk : ∀ W : World, (Instr.makeSlice 103 (.int .i64 64) (.int .i64 64)).run Try.prog W = .ok (.slice (some ⟨W.heap.size, 0, none⟩) 64 64) (W.alloc (.cells (madeCells #[.int .u8 0] 64) 5)) := fun W => run_make_row' (P := Try.prog) 103 5 (.int .u8 0) 1 Try.underlying103 info_u8 rfl .i64 .i64 64 (by omega) (by omega) W
  have hcv : ∀ W : World, (convert 103 9 (.slice (some ⟨W.heap.size, 0, none⟩) 64 64)).run Try.prog (W.alloc (.cells (madeCells #[.int .u8 0] 64) 5)) = .ok (.string z64) (W.alloc (.cells (madeCells #[.int .u8 0] 64) 5)) := fun W => conv_of _ _ 64 (fun _ => 0) (fun i hi => by rw [World.cell?_alloc_at _ _ _ _ rfl]; simp [madeCells, hi, Nat.mod_one])
  go_enter Try.func53, Try.ntmps53
  go_wp2_with fail
  go_loopw [3, 4] (fun v i wr => ∃ k : Nat, k ≤ n ∧ i = .int .i64 k ∧ Hid (wr.ownsRow w.heap.size 9 1 v k (List.replicate k (.string z64))) ∧ Hid (Kp w wr)) (fun _ i _ => n - (intOf i).toNat)
  case atStart => exact ⟨0, by omega, by go_num, World.ownsRow_nil _ _ _ _, Kp.refl w⟩
  case round =>
    obtain ⟨k, hk, rfl, HO, HK⟩ := hrel
    by_cases hlt : k < n
    · have hcw := hcv wr
      obtain ⟨W, hW⟩ : ∃ W, W = wr.alloc (.cells (madeCells #[.int .u8 0] 64) 5) := ⟨_, rfl⟩
      have kW : Kp wr W := by rw [hW]; exact (Kp.refl wr).alloc _
      have hown : (W.alloc (.cells #[.string z64] 9)).ownsRow w.heap.size 9 1 u3 k (List.replicate k (.string z64)) := ((kW.sp []).own HO.out (fun _ _ => by simp)).alloc _
      have hWs : W.heap.size = wr.heap.size + 1 := by rw [hW]; simp
      have hs := HK.out.size
      rw [hW] at hown
      have HOW := hid hown
      have HKW := hid (by rw [hW] at kW; exact (HK.out.trans kW).alloc (.cells #[.string z64] 9))
      have hZ : ¬ 9223372036854775807 < z64.size := by rw [z64_size]; omega
      clear hcv hown hW kW
      go_wp2_with (at_builtin; refine wpList_append_own _ rfl _ _ 37 rfl w.heap.size 9 i0 (.string ByteArray.empty) 1 16 Try.underlying37 hi0 hz0 hz1 hz2 rfl (by decide) _ _ _ rfl HOW.out ⟨wr.heap.size + 1, 0, none⟩ 1 1 [.string z64] rfl rfl ?c1 ?c2 ?c3 ?c4 ?c5 ?_)
      case c1 =>
        intro j u hj
        match j, hj with
        | 0, hj => simp at hj; subst hj; simp [Addr.add]
      case c2 => intro u hu; simp at hu; subst hu; rfl
      case c3 => unfold maxLen; omega
      case c4 => omega
      case c5 => simp; omega
      · intro v' w3 hown3 hgrow3 _
        have HK3 := hid (HKW.out.grown hgrow3 (fun g hg => (HOW.out.lt g hg).1))
        have HO3 : Hid (w3.ownsRow w.heap.size 9 1 v' (k + 1) (List.replicate (k + 1) (.string z64))) := by
          rw [List.replicate_succ']
          exact hown3
        clear hgrow3 hown3 HOW HKW HO HK hcw
        go_wp2
        go_roundw
        case rel => exact ⟨k + 1, by omega, by go_num, HO3, HK3⟩
        case measure => simp [intOf]; omega
    · obtain rfl : k = n := by omega
      clear hmk hcv
      go_wp2
      go_ret
      refine ⟨_, rfl, ⟨?_⟩, HK.out⟩
      have hO := HO.out
      rcases hO.2 with ⟨_, h0⟩ | ⟨g, c, cur, rfl, hbg, hg, hn, hm, _⟩
      · omega
      · refine ⟨g, c, rfl, hn, by unfold maxLen at hm; omega, hbg, (Array.getElem?_eq_some_iff.1 hg).1, fun i hi => ?_, fun i => hO.frozenAt i⟩
        rw [hO.cellAt i (by omega)]
        simp [hi]
theorem RefIn.fresh {w : World} {r gs cap n : Nat} (hr : r < w.heap.size) (hg : gs < w.heap.size) (c0 : w.cell? ⟨r, 0, none⟩ = some (.slice (some ⟨gs, 0, none⟩) n cap)) (c1 : w.cell? ⟨r, 1, none⟩ = some (.slice none 0 0)) (c2 : w.cell? ⟨r, 2, none⟩ = some (.bool false)) (C : Nat → Int) (cn : ∀ j, j < 4 → w.cell? ⟨r, 3 + j, none⟩ = some (.int .i64 (C j))) (z : ∀ o, w.frozen? ⟨r, o, none⟩ = false)
    (s : ∀ i, i < n → w.cell? ⟨gs, i, none⟩ = some (.string z64)) (sz : ∀ i, w.frozen? ⟨gs, i, none⟩ = false) (k1 : n ≤ cap) (k2 : cap ≤ 9223372036854775807) (n1 : gs ≠ r) (h1 : 1 ≤ n) (h2 : n ≤ 256) : RefIn w r gs cap (.slice none 0 0) ⟨List.replicate n z64, List.replicate n z64, [], false, C⟩ := by
  have hl : (List.replicate n z64).length = n := List.length_replicate
  refine ⟨hr, hg, by show _ = some (Value.slice _ (List.replicate n z64).length cap); rw [hl]; exact c0, c1, c2, cn, z, fun i hi => ?_, sz, World.ownsRow_nil _ _ _ _, by show (List.replicate n z64).length ≤ cap; rw [hl]; exact k1, k2, n1, fun g hg => (by cases hg), ⟨by show 1 ≤ (List.replicate n z64).length; rw [hl]; exact h1, by show (List.replicate n z64).length ≤ 256; rw [hl]; exact h2, rfl, rep_all n, rep_all n, fun p hp => (by cases hp)⟩⟩
  have hi' : i < n := by rw [← hl]; exact hi
  rw [s i hi']
  show some (Value.string z64) = some (Value.string ((List.replicate n z64).getD i noS))
  rw [List.getD_eq_getElem?_getD, List.getElem?_replicate, if_pos hi']
  rfl
set_option maxRecDepth 100000 in
set_option maxHeartbeats 1000000 in
theorem rnew_any (k : Int) (w : World) : Calls Try.prog 27 #[.int .i64 k] w fun e w' => ∃ r gs cap, e = .returned (.pointer (some ⟨r, 0, none⟩)) ∧ RefIn w' r gs cap (.slice none 0 0) (nw (nwN k)) ∧ Kp w w' ∧ w.heap.size ≤ r ∧ w.heap.size ≤ gs := by
  obtain ⟨N, hN⟩ : ∃ N, N = nwN k := ⟨_, rfl⟩
  rw [← hN]
  have e1 : 1 ≤ N := by rw [hN]; unfold nwN; omega
  have e2 : N ≤ 256 := by rw [hN]; unfold nwN; omega
  have hb := blank_any N e1 e2
  have key : ∀ (W : World) (v : Value), Kp w W → Sec W N v w → RefIn (W.alloc (.cells #[v, .slice none 0 0, .bool false, .int .i64 0, .int .i64 0, .int .i64 0, .int .i64 0] 41)) W.heap.size (match v with | .slice (some a) _ _ => a.block | _ => 0) (match v with | .slice _ _ c => c | _ => 0) (.slice none 0 0) (nw N) ∧ (∃ g n c, v = .slice (some ⟨g, 0, none⟩) n c ∧ w.heap.size ≤ g) := fun W v kW hs => by
    obtain ⟨g, c, rfl, q1, q2, q3, q4, q5, q6⟩ := hs.h
    refine ⟨?_, g, N, c, rfl, q3⟩
    have kA : Kp W (W.alloc (.cells #[.slice (some ⟨g, 0, none⟩) N c, .slice none 0 0, .bool false, .int .i64 0, .int .i64 0, .int .i64 0, .int .i64 0] 41)) := (Kp.refl W).alloc _
    have hc : ∀ i, (W.alloc (.cells #[.slice (some ⟨g, 0, none⟩) N c, .slice none 0 0, .bool false, .int .i64 0, .int .i64 0, .int .i64 0, .int .i64 0] 41)).cell? ⟨W.heap.size, i, none⟩ = #[.slice (some ⟨g, 0, none⟩) N c, .slice none 0 0, .bool false, .int .i64 0, .int .i64 0, .int .i64 0, .int .i64 0][i]? := fun i => World.cell?_alloc_at _ _ _ i rfl
    exact RefIn.fresh (by simp) (Nat.lt_of_lt_of_le q4 kA.size) (hc 0) (hc 1) (hc 2) (fun _ => 0) (fun j hj => by
      have : j = 0 ∨ j = 1 ∨ j = 2 ∨ j = 3 := by omega
      rcases this with rfl | rfl | rfl | rfl
      · exact hc 3
      · exact hc 4
      · exact hc 5
      · exact hc 6) (fun o => World.frozen?_alloc_at _ _ _ o rfl) (fun i hi => kA.held (q5 i hi)) (fun i => (Below.frozen (p := ⟨g, i, none⟩) kA q4).trans (q6 i)) q1 q2 (by omega) e1 e2
  have HK := hid key
  clear key
  by_cases h1 : k < 1
  · have hk : (N : Int) = 1 := by rw [hN]; unfold nwN; omega
    have hb1 := hb w
    rw [hk] at hb1
    clear hN hb hk
    go_enter Try.func27, Try.ntmps27
    go_wp2_with fail
    refine hb1.mono ?_
    rintro e w1 ⟨v, rfl, hs, k1⟩
    obtain ⟨hR, g, n, c, rfl, hg⟩ := HK.out w1 v k1 hs
    have kF := k1.alloc (.cells #[.slice (some ⟨g, 0, none⟩) n c, .slice none 0 0, .bool false, .int .i64 0, .int .i64 0, .int .i64 0, .int .i64 0] 41)
    clear HK hs hb1
    go_wp2
    go_ret
    exact ⟨_, _, _, rfl, hR, kF, k1.size, hg⟩
  · by_cases h2 : 256 < k
    · have hk : (N : Int) = 256 := by rw [hN]; unfold nwN; omega
      have hb1 := hb w
      rw [hk] at hb1
      clear hN hb hk
      go_enter Try.func27, Try.ntmps27
      go_wp2_with fail
      refine hb1.mono ?_
      rintro e w1 ⟨v, rfl, hs, k1⟩
      obtain ⟨hR, g, n, c, rfl, hg⟩ := HK.out w1 v k1 hs
      have kF := k1.alloc (.cells #[.slice (some ⟨g, 0, none⟩) n c, .slice none 0 0, .bool false, .int .i64 0, .int .i64 0, .int .i64 0, .int .i64 0] 41)
      clear HK hs hb1
      go_wp2
      go_ret
      exact ⟨_, _, _, rfl, hR, kF, k1.size, hg⟩
    · have hk : (N : Int) = k := by rw [hN]; unfold nwN; omega
      have hb1 := hb w
      rw [hk] at hb1
      clear hN hb hk
      go_enter Try.func27, Try.ntmps27
      go_wp2_with fail
      refine hb1.mono ?_
      rintro e w1 ⟨v, rfl, hs, k1⟩
      obtain ⟨hR, g, n, c, rfl, hg⟩ := HK.out w1 v k1 hs
      have kF := k1.alloc (.cells #[.slice (some ⟨g, 0, none⟩) n c, .slice none 0 0, .bool false, .int .i64 0, .int .i64 0, .int .i64 0, .int .i64 0] 41)
      clear HK hs hb1
      go_wp2
      go_ret
      exact ⟨_, _, _, rfl, hR, kF, k1.size, hg⟩

end Go.Proofs.Ytmklkdopmemfaaa
