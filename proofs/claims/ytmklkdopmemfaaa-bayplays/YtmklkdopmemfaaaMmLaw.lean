/-
  Contracts of the law's own functions: sector, wakes. No condition.
-/
import Derived.Test.YtmklkdopmemfaaaMmWait
namespace Go.Proofs.Ytmklkdopmemfaaa
open Go.RowKit Plain
set_option linter.unusedVariables false

theorem info_u8 : (Try.prog.info? 5).map (fun i => (i.zero, i.size, i.bytes)) = some (some (.int .u8 0), 1, 1) := by kernel_rfl
/-- the bytes of an act. -/
def scS (x : Nat) (odd : Bool) : ByteArray := bs 1 (fun _ => x) ++ bs (if odd then 62 else 63) (fun _ => 0)
theorem scS_size (x : Nat) : (scS x false).size = 64 := by
  unfold scS
  rw [ByteArray.size_append, bs_size, bs_size]
  rfl
theorem scS_odd (x : Nat) : (scS x true).size = 63 := by
  unfold scS
  rw [ByteArray.size_append, bs_size, bs_size]
  rfl
theorem conv_of (W : World) (g n : Nat) (f : Nat → Nat) (h : ∀ i, i < n → W.cell? ⟨g, i, none⟩ = some (.int .u8 ((f i : Nat) : Int))) : (convert 103 9 (.slice (some ⟨g, 0, none⟩) n n)).run Try.prog W = .ok (.string (bs n f)) W := by
  refine run_convert_bytes_arg (P := Try.prog) W 103 5 Try.underlying103 Try.underlying5 g 0 n n ((List.range n).map fun i => ((f i : Nat) : Int)) (by simp) (fun i hi => ?_) 9 Try.underlying9
  rw [Nat.zero_add, h i (by simpa using hi)]
  simp only [List.getD_eq_getElem?_getD, List.getElem?_map]
  rw [List.getElem?_range (by simpa using hi)]
  rfl
set_option maxRecDepth 100000 in
theorem sector_any (x : Nat) (hx : x < 256) (odd : Bool) (w : World) : Calls Try.prog 17 #[.int .u8 (x : Int), .bool odd] w fun e w' => e = .returned (.string (scS x odd)) ∧ Kp w w' := by
  obtain ⟨n, hn⟩ : ∃ n, n = (if odd then 62 else 63) := ⟨_, rfl⟩
  unfold scS
  rw [← hn]
  have hn2 : n ≤ 63 := by rw [hn]; split <;> omega
  have HN := hid hn
  obtain ⟨X, hX⟩ : ∃ X, X = Obj.cells #[.int .u8 (x : Int)] 5 := ⟨_, rfl⟩
  obtain ⟨Z, hZ⟩ : ∃ Z, Z = Obj.cells (madeCells #[.int .u8 0] n) 5 := ⟨_, rfl⟩
  have cX : ∀ (W W' : World) (g : Nat), g = W.heap.size → Kp (W.alloc X) W' → (convert 103 9 (.slice (some ⟨g, 0, none⟩) 1 1)).run Try.prog W' = .ok (.string (bs 1 (fun _ => x))) W' := fun W W' g hg k => by
    refine conv_of W' g 1 _ (fun i hi => k.held ?_)
    obtain rfl : i = 0 := by omega
    rw [hX, World.cell?_alloc_at _ _ _ _ hg]; rfl
  have cZ : ∀ (W W' : World) (g : Nat), g = W.heap.size → Kp (W.alloc Z) W' → (convert 103 9 (.slice (some ⟨g, 0, none⟩) n n)).run Try.prog W' = .ok (.string (bs n (fun _ => 0))) W' := fun W W' g hg k => by
    refine conv_of W' g n _ (fun i hi => k.held ?_)
    rw [hZ, World.cell?_alloc_at _ _ _ _ hg]; simp [madeCells, hi, Nat.mod_one]
  have c1 := cX w (w.alloc X).drew w.heap.size rfl (Kp.refl _).drew
  have c2 := cX w ((w.alloc X).alloc Z).drew w.heap.size rfl ((Kp.refl _).alloc _).drew
  have c3 := cX (w.alloc Z) ((w.alloc Z).alloc X).drew (w.heap.size + 1) (by simp) (Kp.refl _).drew
  have d1 := cZ w (w.alloc Z).drew w.heap.size rfl (Kp.refl _).drew
  have d2 := cZ w ((w.alloc Z).alloc X).drew w.heap.size rfl ((Kp.refl _).alloc _).drew
  have d3 := cZ (w.alloc X) ((w.alloc X).alloc Z).drew (w.heap.size + 1) (by simp) (Kp.refl _).drew
  have hmk := fun W => run_make_row' (P := Try.prog) 103 5 (.int .u8 0) 1 Try.underlying103 info_u8 rfl .i64 .i64 n (by omega) (by omega) W
  rw [hX, hZ] at c2 c3 d2 d3
  rw [hX] at c1
  rw [hZ] at d1
  have K1 : Kp w ((w.alloc X).alloc Z).drew := (((Kp.refl w).alloc _).alloc _).drew
  have K2 : Kp w ((w.alloc Z).alloc X).drew := (((Kp.refl w).alloc _).alloc _).drew
  rw [hX, hZ] at K1 K2
  obtain ⟨A, hA⟩ : ∃ A, A = bs 1 (fun _ => x) := ⟨_, rfl⟩
  obtain ⟨B, hB⟩ : ∃ B, B = bs n (fun _ => 0) := ⟨_, rfl⟩
  rw [← hA] at c1 c2 c3 ⊢
  rw [← hB] at d1 d2 d3 ⊢
  have hAB : ¬ 9223372036854775807 < A.size + B.size := by rw [hA, hB, bs_size, bs_size]; omega
  clear cX cZ hX hZ hA hB hn
  cases odd with
  | true =>
    have hn : n = 62 := by rw [HN.out]; rfl
    subst hn
    have hmk2 : ∀ W : World, (Instr.makeSlice 103 (.int .i64 62) (.int .i64 62)).run Try.prog W = .ok (.slice (some ⟨W.heap.size, 0, none⟩) 62 62) (W.alloc (.cells (madeCells #[.int .u8 0] 62) 5)) := hmk
    go_enter Try.func17, Try.ntmps17
    go_wp2_with fail
    go_region
    all_goals (go_wp2; go_ret; first | exact ⟨rfl, K1⟩ | exact ⟨rfl, K2⟩)
  | false =>
    have hn : n = 63 := by rw [HN.out]; rfl
    subst hn
    have hmk2 : ∀ W : World, (Instr.makeSlice 103 (.int .i64 63) (.int .i64 63)).run Try.prog W = .ok (.slice (some ⟨W.heap.size, 0, none⟩) 63 63) (W.alloc (.cells (madeCells #[.int .u8 0] 63) 5)) := hmk
    go_enter Try.func17, Try.ntmps17
    go_wp2_with fail
    go_region
    all_goals (go_wp2; go_ret; first | exact ⟨rfl, K1⟩ | exact ⟨rfl, K2⟩)

/-! ### what the document fixes -/
theorem nw3 : nw (nwN 3) = ⟨[z64, z64, z64], [z64, z64, z64], [], false, fun _ => 0⟩ := rfl
theorem rc_live {L M : List ByteArray} {r : List (Nat × ByteArray)} {c : Nat → Int} (h : 0 < M.length) : rcE ⟨L, M, r, false, c⟩ 0 = 0 := by
  unfold rcE
  rw [if_neg (by simp), if_pos ⟨by omega, by show (0 : Int) < (M.length : Int); omega⟩]
theorem wr_live {L M : List ByteArray} {r : List (Nat × ByteArray)} {c : Nat → Int} (h : 0 < M.length) (s : ByteArray) (hs : s.size = 64) : wrE ⟨L, M, r, false, c⟩ 0 s = 0 ∧ wr ⟨L, M, r, false, c⟩ 0 s = ⟨L.set 0 s, M, r ++ [(0, s)], false, up c 1⟩ := by
  have h1 : wrE ⟨L, M, r, false, c⟩ 0 s = 0 := by unfold wrE; rw [if_pos (rc_live h), if_pos hs]
  exact ⟨h1, if_pos h1⟩
/-- a member of the call's own since w0. -/
def Ow (w0 w : World) (b : Nat) (T : List Nat) (S : MS) : Prop := ∃ bn bl rv, T = blk b bn bl rv ∧ MemIn w b bn bl rv S 0 0 ∧ ∀ t, t ∈ T → w0.heap.size ≤ t
/-- behind a call on it. -/
def Nx (w0 w w' : World) (b : Nat) (T : List Nat) (S : MS) : Prop := ∃ T', Ow w0 w' b T' S ∧ Sp T w w' ∧ Nw w T T'
theorem Ow.low {w0 w : World} {b : Nat} {T : List Nat} {S : MS} (h : Ow w0 w b T S) : ∀ t, t ∈ T → t < w.heap.size := by
  obtain ⟨bn, bl, rv, rfl, h1, _⟩ := h
  exact h1.low
theorem Ow.new {w0 w : World} {b : Nat} {T : List Nat} {S : MS} (h : Ow w0 w b T S) : ∀ t, t ∈ T → w0.heap.size ≤ t := by
  obtain ⟨bn, bl, rv, rfl, _, h2⟩ := h
  exact h2
theorem Ow.sp {w0 w w' : World} {b : Nat} {T : List Nat} {S : MS} (h : Ow w0 w b T S) {T' : List Nat} (k : Sp T' w w') (hT : ∀ t, t ∈ T → t ∉ T') : Ow w0 w' b T S := by
  obtain ⟨bn, bl, rv, rfl, h1, h2⟩ := h
  exact ⟨bn, bl, rv, rfl, h1.sp k hT, h2⟩
theorem Ow.kp {w0 w w' : World} {b : Nat} {T : List Nat} {S : MS} (h : Ow w0 w b T S) (k : Kp w w') : Ow w0 w' b T S := h.sp (k.sp []) (fun _ _ h => by cases h)
theorem Ow.fine {w0 w : World} {b : Nat} {T : List Nat} {S : MS} (h : Ow w0 w b T S) : Fine S := by
  obtain ⟨bn, bl, rv, rfl, h1, _⟩ := h
  exact h1.fine
theorem Nx.kp {w0 w w' : World} {b : Nat} {T : List Nat} {S S' : MS} (h : Nx w0 w w' b T S) (h0 : Ow w0 w b T S') (k : Kp w0 w) : Kp w0 w' := by
  obtain ⟨T', h1, h2, h3⟩ := h
  exact Sp.kp k h2 h0.new
theorem Ow.nx {w0 w w' : World} {b bn bl : Nat} {rv : Value} {S' : MS} (k : Kp w0 w) (h2 : ∀ t, t ∈ blk b bn bl rv → w0.heap.size ≤ t) (h : Md w w' b bn bl rv S') : Nx w0 w w' b (blk b bn bl rv) S' := by
  obtain ⟨rv', h1, h3, h4⟩ := h
  refine ⟨_, ⟨bn, bl, rv', rfl, h1, fun t ht => ?_⟩, h3, h4⟩
  rcases h4 t ht with h5 | h5
  · exact h2 t h5
  · exact Nat.le_trans k.size h5
theorem ow_new (k : Int) (w0 w : World) (K : Kp w0 w) : Calls Try.prog 26 #[.int .i64 k] w fun e w' => ∃ b T, e = .returned (.pointer (some ⟨b, 0, none⟩)) ∧ Ow w0 w' b T (nw (nwN k)) ∧ Kp w w' ∧ (∀ t, t ∈ T → w.heap.size ≤ t) := by
  refine (new_any k w).mono ?_
  rintro e w' ⟨b, bn, bl, rfl, h1, h2, h3, h4, h5⟩
  have hT : ∀ t, t ∈ blk b bn bl (.slice none 0 0) → w.heap.size ≤ t := fun t ht => by
    simp only [blk, Value.ownBlock, List.mem_cons] at ht
    rcases ht with rfl | rfl | rfl | ht
    · exact h3
    · exact h4
    · exact h5
    · cases ht
  exact ⟨b, _, rfl, ⟨bn, bl, _, rfl, h1, fun t ht => Nat.le_trans K.size (hT t ht)⟩, h2, hT⟩
theorem ow_write {w0 w : World} {b : Nat} {T : List Nat} {S : MS} (h : Ow w0 w b T S) (K : Kp w0 w) (k : Int) (s : ByteArray) (hr : S.row.length < 1000000) : Calls Try.prog 46 #[.pointer (some ⟨b, 0, none⟩), .int .i64 k, .string s] w fun e w' => e = .returned (.int .i64 (wrE S k s)) ∧ Nx w0 w w' b T (wr S k s) := by
  obtain ⟨bn, bl, rv, rfl, h1, h2⟩ := h
  exact (write_any h1 k s hr).mono fun e w' ⟨he, hm⟩ => ⟨he, Ow.nx K h2 hm⟩
theorem ow_read {w0 w : World} {b : Nat} {T : List Nat} {S : MS} (h : Ow w0 w b T S) (K : Kp w0 w) (k : Int) : Calls Try.prog 13 #[.pointer (some ⟨b, 0, none⟩), .int .i64 k] w fun e w' => e = .returned (.tuple #[.string (rdS S k), .int .i64 (rcE S k)]) ∧ Nx w0 w w' b T (rd S k) := by
  obtain ⟨bn, bl, rv, rfl, h1, h2⟩ := h
  exact (read_any h1 k).mono fun e w' ⟨he, hm⟩ => ⟨he, Ow.nx K h2 hm⟩
theorem ow_flush {w0 w : World} {b : Nat} {T : List Nat} {S : MS} (h : Ow w0 w b T S) (K : Kp w0 w) : Calls Try.prog 47 #[.pointer (some ⟨b, 0, none⟩)] w fun e w' => e = .returned (.int .i64 (flE S)) ∧ Nx w0 w w' b T (fl S) := by
  obtain ⟨bn, bl, rv, rfl, h1, h2⟩ := h
  exact (flush_any h1).mono fun e w' ⟨he, hm⟩ => ⟨he, Ow.nx K h2 hm⟩
theorem ow_fail {w0 w : World} {b : Nat} {T : List Nat} {S : MS} (h : Ow w0 w b T S) (K : Kp w0 w) : Calls Try.prog 34 #[.pointer (some ⟨b, 0, none⟩)] w fun e w' => e = .returned (.tuple #[]) ∧ Nx w0 w w' b T (fa S) := by
  obtain ⟨bn, bl, rv, rfl, h1, h2⟩ := h
  exact (fail_any h1).mono fun e w' ⟨he, hm⟩ => ⟨he, Ow.nx K h2 hm⟩
theorem ow_replace {w0 w : World} {b : Nat} {T : List Nat} {S : MS} (h : Ow w0 w b T S) (K : Kp w0 w) : Calls Try.prog 36 #[.pointer (some ⟨b, 0, none⟩)] w fun e w' => e = .returned (.tuple #[]) ∧ Nx w0 w w' b T (rp S) := by
  obtain ⟨bn, bl, rv, rfl, h1, h2⟩ := h
  exact (replace_any h1).mono fun e w' ⟨he, hm⟩ => ⟨he, Ow.nx K h2 hm⟩
theorem ow_crash {w0 w : World} {b : Nat} {T : List Nat} {S : MS} (h : Ow w0 w b T S) (K : Kp w0 w) (v : Value) (ks : List Nat) (hk : KeIn w v ks) (hv : ∀ t, t ∈ T → ∀ g off n c, v = .slice (some ⟨g, off, none⟩) n c → 0 < n → g ≠ t) (hr : S.row.length < 1000000) : Calls Try.prog 50 #[.pointer (some ⟨b, 0, none⟩), v] w fun e w' => e = .returned (.tuple #[]) ∧ Nx w0 w w' b T (cr S (bit ks)) := by
  obtain ⟨bn, bl, rv, rfl, h1, h2⟩ := h
  exact (crash_any h1 v ks hk hv hr).mono fun e w' ⟨he, hm⟩ => ⟨he, Ow.nx K h2 hm⟩
theorem ow_dead {w0 w : World} {b : Nat} {T : List Nat} {S : MS} (h : Ow w0 w b T S) (K : Kp w0 w) : Calls Try.prog 52 #[.pointer (some ⟨b, 0, none⟩)] w fun e w' => e = .returned (.bool S.dead) ∧ Nx w0 w w' b T S := by
  obtain ⟨bn, bl, rv, rfl, h1, h2⟩ := h
  exact (dead_any h1).mono fun e w' ⟨he, hm⟩ => ⟨he, Ow.nx K h2 hm⟩
theorem ow_waiting {w0 w : World} {b : Nat} {T : List Nat} {S : MS} (h : Ow w0 w b T S) (K : Kp w0 w) (hr : S.row.length < 1000000) : Calls Try.prog 24 #[.pointer (some ⟨b, 0, none⟩)] w fun e w' => ∃ g, e = .returned (.slice (some ⟨g, 0, none⟩) S.row.length S.row.length) ∧ Nm w' g S.row.length (fun i => ((S.row.getD i (0, noS)).1 : Int)) ∧ Nx w0 w w' b T S ∧ w.heap.size ≤ g := by
  obtain ⟨bn, bl, rv, rfl, h1, h2⟩ := h
  exact (waiting_any h1 hr).mono fun e w' ⟨g, he, hn, hm, hg⟩ => ⟨g, he, hn, Ow.nx K h2 hm, hg⟩
theorem ke_one (w : World) (x : Nat) (hx : x < 18446744073709551616) (k : Nat) (hk : k = w.heap.size) : KeIn (w.alloc (.cells #[.int .u64 (x : Int)] 138)) (.slice (some ⟨k, 0, none⟩) 1 1) [x] :=
  ⟨⟨_, 1, rfl, by simp, by omega, fun _ => ⟨k, 0, rfl, fun i hi => by
    obtain rfl : i = 0 := by simp at hi; omega
    rw [World.cell?_alloc_at _ _ _ _ hk]; rfl⟩⟩, fun y hy => by rw [List.mem_singleton.1 hy]; exact hx⟩


end Go.Proofs.Ytmklkdopmemfaaa
