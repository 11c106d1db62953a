/-
  Contracts of the law's own functions: sector, wakes. No condition.
-/
import Derived.Test.YtohakbhjkhhcaaaMmWait
namespace Go.Proofs.Ytohakbhjkhhcaaa
open Go.RowKit Plain
set_option linter.unusedVariables false

theorem info_u8 : (Try.prog.info? 5).map (fun i => (i.zero, i.size, i.bytes)) = some (some (.int .u8 0), 1, 1) := by kernel_rfl
/-- the bytes of an act. -/
def scS (x : Nat) (odd : Bool) : ByteArray := bs 1 (fun _ => x) ++ bs (if odd then 62 else 63) (fun _ => 0)
theorem scS_size (x : Nat) : (scS x false).size = 64 := by
  unfold scS
  rw [ByteArray.size_append, bs_size, bs_size]
  rfl
theorem scS_odd (x : Nat) : (scS x true).size = 63 := by
  unfold scS
  rw [ByteArray.size_append, bs_size, bs_size]
  rfl
theorem conv_of (W : World) (g n : Nat) (f : Nat → Nat) (h : ∀ i, i < n → W.cell? ⟨g, i, none⟩ = some (.int .u8 ((f i : Nat) : Int))) : (convert 62 9 (.slice (some ⟨g, 0, none⟩) n n)).run Try.prog W = .ok (.string (bs n f)) W := by
  refine run_convert_bytes_arg (P := Try.prog) W 62 5 Try.underlying62 Try.underlying5 g 0 n n ((List.range n).map fun i => ((f i : Nat) : Int)) (by simp) (fun i hi => ?_) 9 Try.underlying9
  rw [Nat.zero_add, h i (by simpa using hi)]
  simp only [List.getD_eq_getElem?_getD, List.getElem?_map]
  rw [List.getElem?_range (by simpa using hi)]
  rfl
set_option maxRecDepth 100000 in
theorem sector_any (x : Nat) (hx : x < 256) (odd : Bool) (w : World) : Calls Try.prog 15 #[.int .u8 (x : Int), .bool odd] w fun e w' => e = .returned (.string (scS x odd)) ∧ Kp w w' := by
  obtain ⟨n, hn⟩ : ∃ n, n = (if odd then 62 else 63) := ⟨_, rfl⟩
  unfold scS
  rw [← hn]
  have hn2 : n ≤ 63 := by rw [hn]; split <;> omega
  have HN := hid hn
  obtain ⟨X, hX⟩ : ∃ X, X = Obj.cells #[.int .u8 (x : Int)] 5 := ⟨_, rfl⟩
  obtain ⟨Z, hZ⟩ : ∃ Z, Z = Obj.cells (madeCells #[.int .u8 0] n) 5 := ⟨_, rfl⟩
  have cX : ∀ (W W' : World) (g : Nat), g = W.heap.size → Kp (W.alloc X) W' → (convert 62 9 (.slice (some ⟨g, 0, none⟩) 1 1)).run Try.prog W' = .ok (.string (bs 1 (fun _ => x))) W' := fun W W' g hg k => by
    refine conv_of W' g 1 _ (fun i hi => k.held ?_)
    obtain rfl : i = 0 := by omega
    rw [hX, World.cell?_alloc_at _ _ _ _ hg]; rfl
  have cZ : ∀ (W W' : World) (g : Nat), g = W.heap.size → Kp (W.alloc Z) W' → (convert 62 9 (.slice (some ⟨g, 0, none⟩) n n)).run Try.prog W' = .ok (.string (bs n (fun _ => 0))) W' := fun W W' g hg k => by
    refine conv_of W' g n _ (fun i hi => k.held ?_)
    rw [hZ, World.cell?_alloc_at _ _ _ _ hg]; simp [madeCells, hi, Nat.mod_one]
  have c1 := cX w (w.alloc X).drew w.heap.size rfl (Kp.refl _).drew
  have c2 := cX w ((w.alloc X).alloc Z).drew w.heap.size rfl ((Kp.refl _).alloc _).drew
  have c3 := cX (w.alloc Z) ((w.alloc Z).alloc X).drew (w.heap.size + 1) (by simp) (Kp.refl _).drew
  have d1 := cZ w (w.alloc Z).drew w.heap.size rfl (Kp.refl _).drew
  have d2 := cZ w ((w.alloc Z).alloc X).drew w.heap.size rfl ((Kp.refl _).alloc _).drew
  have d3 := cZ (w.alloc X) ((w.alloc X).alloc Z).drew (w.heap.size + 1) (by simp) (Kp.refl _).drew
  have hmk := fun W => run_make_row' (P := Try.prog) 62 5 (.int .u8 0) 1 Try.underlying62 info_u8 rfl .i64 .i64 n (by omega) (by omega) W
  rw [hX, hZ] at c2 c3 d2 d3
  rw [hX] at c1
  rw [hZ] at d1
  have K1 : Kp w ((w.alloc X).alloc Z).drew := (((Kp.refl w).alloc _).alloc _).drew
  have K2 : Kp w ((w.alloc Z).alloc X).drew := (((Kp.refl w).alloc _).alloc _).drew
  rw [hX, hZ] at K1 K2
  obtain ⟨A, hA⟩ : ∃ A, A = bs 1 (fun _ => x) := ⟨_, rfl⟩
  obtain ⟨B, hB⟩ : ∃ B, B = bs n (fun _ => 0) := ⟨_, rfl⟩
  rw [← hA] at c1 c2 c3 ⊢
  rw [← hB] at d1 d2 d3 ⊢
  have hAB : ¬ 9223372036854775807 < A.size + B.size := by rw [hA, hB, bs_size, bs_size]; omega
  clear cX cZ hX hZ hA hB hn
  cases odd with
  | true =>
    have hn : n = 62 := by rw [HN.out]; rfl
    subst hn
    have hmk2 : ∀ W : World, (Instr.makeSlice 62 (.int .i64 62) (.int .i64 62)).run Try.prog W = .ok (.slice (some ⟨W.heap.size, 0, none⟩) 62 62) (W.alloc (.cells (madeCells #[.int .u8 0] 62) 5)) := hmk
    go_enter Try.func15, Try.ntmps15
    go_wp2_with fail
    go_region
    all_goals (go_wp2; go_ret; first | exact ⟨rfl, K1⟩ | exact ⟨rfl, K2⟩)
  | false =>
    have hn : n = 63 := by rw [HN.out]; rfl
    subst hn
    have hmk2 : ∀ W : World, (Instr.makeSlice 62 (.int .i64 63) (.int .i64 63)).run Try.prog W = .ok (.slice (some ⟨W.heap.size, 0, none⟩) 63 63) (W.alloc (.cells (madeCells #[.int .u8 0] 63) 5)) := hmk
    go_enter Try.func15, Try.ntmps15
    go_wp2_with fail
    go_region
    all_goals (go_wp2; go_ret; first | exact ⟨rfl, K1⟩ | exact ⟨rfl, K2⟩)

/-! ### what the document fixes -/
theorem nw3 : nw (nwN 3) = ⟨[z64, z64, z64], [z64, z64, z64], [], false, fun _ => 0⟩ := rfl
theorem rc_live {L M : List ByteArray} {r : List (Nat × ByteArray)} {c : Nat → Int} (h : 0 < M.length) : rcE ⟨L, M, r, false, c⟩ 0 = 0 := by
  unfold rcE
  rw [if_neg (by simp), if_pos ⟨by omega, by show (0 : Int) < (M.length : Int); omega⟩]
theorem wr_live {L M : List ByteArray} {r : List (Nat × ByteArray)} {c : Nat → Int} (h : 0 < M.length) (s : ByteArray) (hs : s.size = 64) : wrE ⟨L, M, r, false, c⟩ 0 s = 0 ∧ wr ⟨L, M, r, false, c⟩ 0 s = ⟨L.set 0 s, M, r ++ [(0, s)], false, up c 1⟩ := by
  have h1 : wrE ⟨L, M, r, false, c⟩ 0 s = 0 := by unfold wrE; rw [if_pos (rc_live h), if_pos hs]
  exact ⟨h1, if_pos h1⟩
/-- a member of the call's own since w0. -/
def Ow (w0 w : World) (b : Nat) (T : List Nat) (S : MS) : Prop := ∃ bn bl rv, T = blk b bn bl rv ∧ MemIn w b bn bl rv S 0 0 ∧ ∀ t, t ∈ T → w0.heap.size ≤ t
/-- behind a call on it. -/
def Nx (w0 w w' : World) (b : Nat) (T : List Nat) (S : MS) : Prop := ∃ T', Ow w0 w' b T' S ∧ Sp T w w' ∧ Nw w T T'
theorem Ow.low {w0 w : World} {b : Nat} {T : List Nat} {S : MS} (h : Ow w0 w b T S) : ∀ t, t ∈ T → t < w.heap.size := by
  obtain ⟨bn, bl, rv, rfl, h1, _⟩ := h
  exact h1.low
theorem Ow.new {w0 w : World} {b : Nat} {T : List Nat} {S : MS} (h : Ow w0 w b T S) : ∀ t, t ∈ T → w0.heap.size ≤ t := by
  obtain ⟨bn, bl, rv, rfl, _, h2⟩ := h
  exact h2
theorem Ow.sp {w0 w w' : World} {b : Nat} {T : List Nat} {S : MS} (h : Ow w0 w b T S) {T' : List Nat} (k : Sp T' w w') (hT : ∀ t, t ∈ T → t ∉ T') : Ow w0 w' b T S := by
  obtain ⟨bn, bl, rv, rfl, h1, h2⟩ := h
  exact ⟨bn, bl, rv, rfl, h1.sp k hT, h2⟩
theorem Ow.kp {w0 w w' : World} {b : Nat} {T : List Nat} {S : MS} (h : Ow w0 w b T S) (k : Kp w w') : Ow w0 w' b T S := h.sp (k.sp []) (fun _ _ h => by cases h)
theorem Ow.fine {w0 w : World} {b : Nat} {T : List Nat} {S : MS} (h : Ow w0 w b T S) : Fine S := by
  obtain ⟨bn, bl, rv, rfl, h1, _⟩ := h
  exact h1.fine
theorem Nx.kp {w0 w w' : World} {b : Nat} {T : List Nat} {S S' : MS} (h : Nx w0 w w' b T S) (h0 : Ow w0 w b T S') (k : Kp w0 w) : Kp w0 w' := by
  obtain ⟨T', h1, h2, h3⟩ := h
  exact Sp.kp k h2 h0.new
theorem Ow.nx {w0 w w' : World} {b bn bl : Nat} {rv : Value} {S' : MS} (k : Kp w0 w) (h2 : ∀ t, t ∈ blk b bn bl rv → w0.heap.size ≤ t) (h : Md w w' b bn bl rv S') : Nx w0 w w' b (blk b bn bl rv) S' := by
  obtain ⟨rv', h1, h3, h4⟩ := h
  refine ⟨_, ⟨bn, bl, rv', rfl, h1, fun t ht => ?_⟩, h3, h4⟩
  rcases h4 t ht with h5 | h5
  · exact h2 t h5
  · exact Nat.le_trans k.size h5
theorem ow_new (k : Int) (w0 w : World) (K : Kp w0 w) : Calls Try.prog 7 #[.int .i64 k] w fun e w' => ∃ b T, e = .returned (.pointer (some ⟨b, 0, none⟩)) ∧ Ow w0 w' b T (nw (nwN k)) ∧ Kp w w' ∧ (∀ t, t ∈ T → w.heap.size ≤ t) := by
  refine (new_any k w).mono ?_
  rintro e w' ⟨b, bn, bl, rfl, h1, h2, h3, h4, h5⟩
  have hT : ∀ t, t ∈ blk b bn bl (.slice none 0 0) → w.heap.size ≤ t := fun t ht => by
    simp only [blk, Value.ownBlock, List.mem_cons] at ht
    rcases ht with rfl | rfl | rfl | ht
    · exact h3
    · exact h4
    · exact h5
    · cases ht
  exact ⟨b, _, rfl, ⟨bn, bl, _, rfl, h1, fun t ht => Nat.le_trans K.size (hT t ht)⟩, h2, hT⟩
theorem ow_write {w0 w : World} {b : Nat} {T : List Nat} {S : MS} (h : Ow w0 w b T S) (K : Kp w0 w) (k : Int) (s : ByteArray) (hr : S.row.length < 1000000) : Calls Try.prog 14 #[.pointer (some ⟨b, 0, none⟩), .int .i64 k, .string s] w fun e w' => e = .returned (.int .i64 (wrE S k s)) ∧ Nx w0 w w' b T (wr S k s) := by
  obtain ⟨bn, bl, rv, rfl, h1, h2⟩ := h
  exact (write_any h1 k s hr).mono fun e w' ⟨he, hm⟩ => ⟨he, Ow.nx K h2 hm⟩
theorem ow_read {w0 w : World} {b : Nat} {T : List Nat} {S : MS} (h : Ow w0 w b T S) (K : Kp w0 w) (k : Int) : Calls Try.prog 12 #[.pointer (some ⟨b, 0, none⟩), .int .i64 k] w fun e w' => e = .returned (.tuple #[.string (rdS S k), .int .i64 (rcE S k)]) ∧ Nx w0 w w' b T (rd S k) := by
  obtain ⟨bn, bl, rv, rfl, h1, h2⟩ := h
  exact (read_any h1 k).mono fun e w' ⟨he, hm⟩ => ⟨he, Ow.nx K h2 hm⟩
theorem ow_flush {w0 w : World} {b : Nat} {T : List Nat} {S : MS} (h : Ow w0 w b T S) (K : Kp w0 w) : Calls Try.prog 16 #[.pointer (some ⟨b, 0, none⟩)] w fun e w' => e = .returned (.int .i64 (flE S)) ∧ Nx w0 w w' b T (fl S) := by
  obtain ⟨bn, bl, rv, rfl, h1, h2⟩ := h
  exact (flush_any h1).mono fun e w' ⟨he, hm⟩ => ⟨he, Ow.nx K h2 hm⟩
theorem ow_fail {w0 w : World} {b : Nat} {T : List Nat} {S : MS} (h : Ow w0 w b T S) (K : Kp w0 w) : Calls Try.prog 19 #[.pointer (some ⟨b, 0, none⟩)] w fun e w' => e = .returned (.tuple #[]) ∧ Nx w0 w w' b T (fa S) := by
  obtain ⟨bn, bl, rv, rfl, h1, h2⟩ := h
  exact (fail_any h1).mono fun e w' ⟨he, hm⟩ => ⟨he, Ow.nx K h2 hm⟩
theorem ow_replace {w0 w : World} {b : Nat} {T : List Nat} {S : MS} (h : Ow w0 w b T S) (K : Kp w0 w) : Calls Try.prog 22 #[.pointer (some ⟨b, 0, none⟩)] w fun e w' => e = .returned (.tuple #[]) ∧ Nx w0 w w' b T (rp S) := by
  obtain ⟨bn, bl, rv, rfl, h1, h2⟩ := h
  exact (replace_any h1).mono fun e w' ⟨he, hm⟩ => ⟨he, Ow.nx K h2 hm⟩
theorem ow_rot {w0 w : World} {b : Nat} {T : List Nat} {S : MS} (h : Ow w0 w b T S) (K : Kp w0 w) (k : Int) (s : ByteArray) : Calls Try.prog 20 #[.pointer (some ⟨b, 0, none⟩), .int .i64 k, .string s] w fun e w' => e = .returned (.bool (rtB S k s)) ∧ Nx w0 w w' b T (rt S k s) := by
  obtain ⟨bn, bl, rv, rfl, h1, h2⟩ := h
  exact (rot_any h1 k s).mono fun e w' ⟨he, hm⟩ => ⟨he, Ow.nx K h2 hm⟩
theorem ow_crash {w0 w : World} {b : Nat} {T : List Nat} {S : MS} (h : Ow w0 w b T S) (K : Kp w0 w) (v : Value) (ks : List Nat) (hk : KeIn w v ks) (hv : ∀ t, t ∈ T → ∀ g off n c, v = .slice (some ⟨g, off, none⟩) n c → 0 < n → g ≠ t) (hr : S.row.length < 1000000) : Calls Try.prog 17 #[.pointer (some ⟨b, 0, none⟩), v] w fun e w' => e = .returned (.tuple #[]) ∧ Nx w0 w w' b T (cr S (bit ks)) := by
  obtain ⟨bn, bl, rv, rfl, h1, h2⟩ := h
  exact (crash_any h1 v ks hk hv hr).mono fun e w' ⟨he, hm⟩ => ⟨he, Ow.nx K h2 hm⟩
theorem ow_dead {w0 w : World} {b : Nat} {T : List Nat} {S : MS} (h : Ow w0 w b T S) (K : Kp w0 w) : Calls Try.prog 21 #[.pointer (some ⟨b, 0, none⟩)] w fun e w' => e = .returned (.bool S.dead) ∧ Nx w0 w w' b T S := by
  obtain ⟨bn, bl, rv, rfl, h1, h2⟩ := h
  exact (dead_any h1).mono fun e w' ⟨he, hm⟩ => ⟨he, Ow.nx K h2 hm⟩
theorem ow_size {w0 w : World} {b : Nat} {T : List Nat} {S : MS} (h : Ow w0 w b T S) : Calls Try.prog 23 #[.pointer (some ⟨b, 0, none⟩)] w fun e w' => e = .returned (.int .i64 (S.las.length : Int)) ∧ w' = w := by
  obtain ⟨bn, bl, rv, rfl, h1, h2⟩ := h
  exact size_any h1
theorem ow_counts {w0 w : World} {b : Nat} {T : List Nat} {S : MS} (h : Ow w0 w b T S) : Calls Try.prog 24 #[.pointer (some ⟨b, 0, none⟩)] w fun e w' => e = .returned (cV S.c) ∧ Kp w w' := by
  obtain ⟨bn, bl, rv, rfl, h1, h2⟩ := h
  exact counts_any h1
theorem ow_waiting {w0 w : World} {b : Nat} {T : List Nat} {S : MS} (h : Ow w0 w b T S) (K : Kp w0 w) (hr : S.row.length < 1000000) : Calls Try.prog 18 #[.pointer (some ⟨b, 0, none⟩)] w fun e w' => ∃ g, e = .returned (.slice (some ⟨g, 0, none⟩) S.row.length S.row.length) ∧ Nm w' g S.row.length (fun i => ((S.row.getD i (0, noS)).1 : Int)) ∧ Nx w0 w w' b T S ∧ w.heap.size ≤ g := by
  obtain ⟨bn, bl, rv, rfl, h1, h2⟩ := h
  exact (waiting_any h1 hr).mono fun e w' ⟨g, he, hn, hm, hg⟩ => ⟨g, he, hn, Ow.nx K h2 hm, hg⟩
theorem ke_one (w : World) (x : Nat) (hx : x < 18446744073709551616) (k : Nat) (hk : k = w.heap.size) : KeIn (w.alloc (.cells #[.int .u64 (x : Int)] 54)) (.slice (some ⟨k, 0, none⟩) 1 1) [x] :=
  ⟨⟨_, 1, rfl, by simp, by omega, fun _ => ⟨k, 0, rfl, fun i hi => by
    obtain rfl : i = 0 := by simp at hi; omega
    rw [World.cell?_alloc_at _ _ _ _ hk]; rfl⟩⟩, fun y hy => by rw [List.mem_singleton.1 hy]; exact hx⟩

set_option maxRecDepth 100000 in
set_option maxHeartbeats 2000000 in
theorem wakes_any (w : World) : Calls Try.prog 9 #[] w fun e w' => e = .returned (.bool true) ∧ Kp w w' := by
  obtain ⟨A, hA⟩ : ∃ A, A = scS 97 false := ⟨_, rfl⟩
  obtain ⟨B, hB⟩ : ∃ B, B = scS 98 false := ⟨_, rfl⟩
  obtain ⟨C, hC⟩ : ∃ C, C = scS 99 false := ⟨_, rfl⟩
  have sA := sector_any 97 (by omega) false
  have sB := sector_any 98 (by omega) false
  have sC := sector_any 99 (by omega) false
  have zA := scS_size 97
  have zB := scS_size 98
  have zC := scS_size 99
  rw [← hA] at sA zA
  rw [← hB] at sB zB
  rw [← hC] at sC zC
  have HA := hid zA
  have HB := hid zB
  have HC := hid zC
  clear hA hB hC zA zB zC
  go_enter Try.func9, Try.ntmps9
  go_wp2_with fail
  refine (ow_new 3 w w (Kp.refl w)).mono ?_
  rintro e w1 ⟨b, T, rfl, h1, k1, _⟩
  rw [nw3] at h1
  go_wp2_with fail
  refine (sA w1).mono ?_
  rintro e w2 ⟨rfl, k2⟩
  have h2 := h1.kp k2
  have K2 := k1.trans k2
  clear h1 k1 k2
  go_wp2_with fail
  refine (ow_write h2 K2 0 A (by simp)).mono ?_
  rintro e w3 ⟨rfl, m3⟩
  rw [(wr_live (by simp) A HA.out).1]
  rw [(wr_live (by simp) A HA.out).2] at m3
  have K3 := m3.kp h2 K2
  obtain ⟨T3, h3, _, _⟩ := m3
  clear h2 K2
  go_wp2_with fail
  refine (ow_flush h3 K3).mono ?_
  rintro e w4 ⟨rfl, m4⟩
  have K4 := m4.kp h3 K3
  obtain ⟨T4, h4, _, _⟩ := m4
  clear h3 K3
  rw [show flE ⟨[z64, z64, z64].set 0 A, [z64, z64, z64], [] ++ [(0, A)], false, up (fun _ => 0) 1⟩ = 0 from rfl]
  rw [show fl ⟨[z64, z64, z64].set 0 A, [z64, z64, z64], [] ++ [(0, A)], false, up (fun _ => 0) 1⟩ = ⟨[A, z64, z64], [A, z64, z64], [], false, up (up (fun _ => 0) 1) 2⟩ from rfl] at h4
  go_wp2_with fail
  refine (sB w4).mono ?_
  rintro e w5 ⟨rfl, k5⟩
  have h5 := h4.kp k5
  have K5 := K4.trans k5
  clear h4 K4 k5
  go_wp2_with fail
  refine (ow_write h5 K5 0 B (by simp)).mono ?_
  rintro e w6 ⟨rfl, m6⟩
  rw [(wr_live (by simp) B HB.out).1]
  rw [(wr_live (by simp) B HB.out).2] at m6
  have K6 := m6.kp h5 K5
  obtain ⟨T6, h6, _, _⟩ := m6
  clear h5 K5
  go_wp2_with fail
  refine (sC w6).mono ?_
  rintro e w7 ⟨rfl, k7⟩
  have h7 := h6.kp k7
  have K7 := K6.trans k7
  clear h6 K6 k7
  go_wp2_with fail
  refine (ow_write h7 K7 0 C (by simp)).mono ?_
  rintro e w8 ⟨rfl, m8⟩
  rw [(wr_live (by simp) C HC.out).1]
  rw [(wr_live (by simp) C HC.out).2] at m8
  have K8 := m8.kp h7 K7
  obtain ⟨T8, h8, _, _⟩ := m8
  clear h7 K7
  obtain ⟨S8, hS8⟩ : ∃ S8 : MS, S8 = ⟨([A, z64, z64].set 0 B).set 0 C, [A, z64, z64], [] ++ [(0, B)] ++ [(0, C)], false, up (up (up (up (fun _ => 0) 1) 2) 1) 1⟩ := ⟨_, rfl⟩
  rw [← hS8] at h8
  have r8 : rcE S8 0 = 0 := by rw [hS8]; exact rc_live (by simp)
  have e8 : rdS S8 0 = C := by rw [hS8]; exact if_pos (rc_live (by simp))
  have f8 : rd S8 0 = ⟨[C, z64, z64], [A, z64, z64], [(0, B), (0, C)], false, up (up (up (up (up (fun _ => 0) 1) 2) 1) 1) 0⟩ := by rw [hS8]; exact if_pos (rc_live (by simp))
  clear hS8
  go_wp2_with fail
  refine (ow_read h8 K8 0).mono ?_
  rintro e w9 ⟨rfl, m9⟩
  rw [r8, e8]
  rw [f8] at m9
  have K9 := m9.kp h8 K8
  obtain ⟨T9, h9, _, _⟩ := m9
  clear h8 K8 r8 e8 f8
  go_wp2_with fail
  have hke := ke_one w9 1 (by omega) w9.heap.size rfl
  have kA : Kp w9 (w9.alloc (.cells #[.int .u64 ((1 : Nat) : Int)] 54)) := (Kp.refl w9).alloc _
  refine (ow_crash (h9.kp kA) (K9.trans kA) _ [1] hke (fun t ht g off n c hv _ => by cases hv; have := h9.low t ht; omega) (by simp)).mono ?_
  rintro e w10 ⟨rfl, m10⟩
  have K10 := m10.kp (h9.kp kA) (K9.trans kA)
  obtain ⟨T10, h10, _, _⟩ := m10
  rw [show cr ⟨[C, z64, z64], [A, z64, z64], [(0, B), (0, C)], false, up (up (up (up (up (fun _ => 0) 1) 2) 1) 1) 0⟩ (bit [1]) = ⟨[B, z64, z64], [B, z64, z64], [], false, up (up (up (up (up (fun _ => 0) 1) 2) 1) 1) 0⟩ from rfl] at h10
  clear h9 K9 hke kA
  obtain ⟨S10, hS10⟩ : ∃ S10 : MS, S10 = ⟨[B, z64, z64], [B, z64, z64], [], false, up (up (up (up (up (fun _ => 0) 1) 2) 1) 1) 0⟩ := ⟨_, rfl⟩
  rw [← hS10] at h10
  have r10 : rcE S10 0 = 0 := by rw [hS10]; exact rc_live (by simp)
  have e10 : rdS S10 0 = B := by rw [hS10]; exact if_pos (rc_live (by simp))
  have f10 : (rd S10 0).c = up (up (up (up (up (up (fun _ => 0) 1) 2) 1) 1) 0) 0 := by rw [hS10, show rd _ 0 = _ from if_pos (rc_live (by simp))]
  clear hS10
  go_wp2_with fail
  refine (ow_read h10 K10 0).mono ?_
  rintro e w11 ⟨rfl, m11⟩
  rw [r10, e10]
  have K11 := m11.kp h10 K10
  obtain ⟨T11, h11, _, _⟩ := m11
  clear h10 K10 r10 e10
  go_wp2_with fail
  refine (sC w11).mono ?_
  rintro e w12 ⟨rfl, k12⟩
  have h12 := h11.kp k12
  have K12 := K11.trans k12
  clear h11 K11 k12
  go_wp2_with fail
  refine (sB w12).mono ?_
  rintro e w13 ⟨rfl, k13⟩
  have h13 := h12.kp k13
  have K13 := K12.trans k13
  clear h12 K12 k13
  go_wp2_with fail
  refine (ow_counts h13).mono ?_
  rintro e w14 ⟨rfl, k14⟩
  rw [f10]
  have K14 := K13.trans k14
  rw [show cV (up (up (up (up (up (up (fun _ => 0) 1) 2) 1) 1) 0) 0) = .agg #[.int .i64 2, .int .i64 3, .int .i64 1, .int .i64 0] from by simp [cV, up, wrap64]]
  go_wp2
  go_ret
  exact ⟨rfl, K14⟩

end Go.Proofs.Ytohakbhjkhhcaaa
