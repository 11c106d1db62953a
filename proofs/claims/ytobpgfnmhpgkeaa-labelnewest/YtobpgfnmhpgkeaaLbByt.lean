/-
  Bytes in a block (Byt), stores into one block alone (Trd), a row of bytes of the call's own (Fb), a byte appended to it; contracts of label's store and load, of the document's number and big. Conditions: that the bytes lie where they are said to lie; that a number has eight bytes at most.
-/
import Derived.Test.YtobpgfnmhpgkeaaLbMem
import Derived.Lib.LazyBuf
namespace Go.Proofs.Ytobpgfnmhpgkeaa
open Go.RowKit Plain
set_option linter.unusedVariables false

/-- block B holds n bytes, none of them frozen. -/
structure Byt (W : World) (B n : Nat) (f : Nat → Nat) : Prop where
  cell : ∀ i, i < n → W.cell? ⟨B, i, none⟩ = some (.int .u8 ((f i : Nat) : Int))
  free : ∀ i, i < n → W.frozen? ⟨B, i, none⟩ = false
theorem Byt.kept {W W' : World} {B n : Nat} {f : Nat → Nat} (h : Byt W B n f) (k : Kp W W') (hB : B < W.heap.size) : Byt W' B n f :=
  ⟨fun i hi => k.held (h.cell i hi), fun i hi => (Below.frozen (p := ⟨B, i, none⟩) k hB).trans (h.free i hi)⟩
theorem Byt.set {W : World} {B n : Nat} {f : Nat → Nat} (h : Byt W B n f) (j x : Nat) : Byt (W.setCell ⟨B, j, none⟩ (.int .u8 (x : Int))) B n (fun i => if i = j then x else f i) :=
  ⟨fun i hi => by
    by_cases hj : i = j
    · subst hj
      show _ = some (Value.int .u8 (((if i = i then x else f i : Nat) : Nat) : Int))
      rw [if_pos rfl]
      exact World.cell?_setCell_same' _ _ _ (by rw [h.cell i hi]; rfl)
    · show _ = some (Value.int .u8 (((if i = j then x else f i : Nat) : Nat) : Int))
      rw [if_neg hj]
      exact (World.cell?_setCell_other _ _ _ _ (by intro e; cases e; exact hj rfl)).trans (h.cell i hi), fun i hi => by rw [World.frozen?_setCell]; exact h.free i hi⟩
theorem Byt.congr {W : World} {B n : Nat} {f g : Nat → Nat} (h : Byt W B n f) (he : ∀ i, i < n → f i = g i) : Byt W B n g :=
  ⟨fun i hi => by rw [← he i hi]; exact h.cell i hi, h.free⟩
theorem Byt.text {W : World} {B n : Nat} {f : Nat → Nat} (h : Byt W B n f) (m c : Nat) (hm : m ≤ n) : (convert 48 9 (.slice (some ⟨B, 0, none⟩) m c)).run Try.prog W = .ok (.string (bs m f)) W := by
  refine run_convert_bytes_arg (P := Try.prog) W 48 5 Try.underlying48 Try.underlying5 B 0 m c ((List.range m).map fun i => ((f i : Nat) : Int)) (by simp) (fun i hi => ?_) 9 Try.underlying9
  rw [Nat.zero_add, h.cell i (by have : i < m := by simpa using hi
                                 omega)]
  simp only [List.getD_eq_getElem?_getD, List.getElem?_map]
  rw [List.getElem?_range (by simpa using hi)]
  rfl
theorem Byt.lt {W : World} {B n : Nat} {f : Nat → Nat} (h : Byt W B n f) (h0 : 0 < n) : B < W.heap.size := World.block_lt_of_cell? _ _ (h.cell 0 h0)
/-- w' is w with draws, and stores into block b alone. -/
structure Trd (b : Nat) (w w' : World) : Prop where
  block : ∀ k, k ≠ b → w'.heap[k]? = w.heap[k]?
  size : w.heap.size = w'.heap.size
  kp : ∀ W, Kp W w → W.heap.size ≤ b → Kp W w'
theorem Trd.refl (b : Nat) (w : World) : Trd b w w := ⟨fun _ _ => rfl, rfl, fun _ h _ => h⟩
theorem Trd.trans {b : Nat} {w1 w2 w3 : World} (h : Trd b w1 w2) (k : Trd b w2 w3) : Trd b w1 w3 :=
  ⟨fun i hb => (k.block i hb).trans (h.block i hb), h.size.trans k.size, fun W hg hs => k.kp W (h.kp W hg hs) hs⟩
theorem Trd.setCell {b : Nat} {w1 w2 : World} (h : Trd b w1 w2) (o : Nat) (v : Value) : Trd b w1 (w2.setCell ⟨b, o, none⟩ v) :=
  h.trans ⟨fun k hb => Below.heap_setCell _ _ _ _ hb, by simp [World.setCell], fun _ hg hs => Below.setCell hg (p := ⟨b, o, none⟩) hs v⟩
theorem Trd.drew {b : Nat} {w1 w2 : World} (h : Trd b w1 w2) : Trd b w1 w2.drew :=
  h.trans ⟨fun _ _ => rfl, rfl, fun _ hg _ => hg.drew⟩
theorem Trd.held {b : Nat} {w w' : World} (h : Trd b w w') {c o : Nat} {v : Value} (hc : c ≠ b) (hv : w.cell? ⟨c, o, none⟩ = some v) : w'.cell? ⟨c, o, none⟩ = some v := (World.cell?_of_block (w := w) (a := ⟨c, o, none⟩) (h.block c hc)).trans hv
theorem Trd.lc {b c : Nat} {w w' : World} (h : Trd b w w') (hc : c ≠ b) {n s ep : Int} {sv mv : Value} (k : Lc w c n s ep sv mv) : Lc w' c n s ep sv mv := ⟨h.held hc k.c0, h.held hc k.c1, h.held hc k.c2, h.held hc k.c3, h.held hc k.c4⟩
theorem asz (w : World) (o : Obj) : (w.alloc o).heap.size = w.heap.size + 1 := by simp
/-- a label stored at block b. -/
def over (w : World) (b : Nat) (n s ep : Int) (sv mv : Value) : World := ((((w.setCell ⟨b, 0, none⟩ (.int .i64 n)).setCell ⟨b, 1, none⟩ (.int .i64 s)).setCell ⟨b, 2, none⟩ (.int .i64 ep)).setCell ⟨b, 3, none⟩ sv).setCell ⟨b, 4, none⟩ mv
theorem Trd.over {b : Nat} {w1 w : World} (h : Trd b w1 w) (n s ep : Int) (sv mv : Value) : Trd b w1 (over w b n s ep sv mv) := ((((h.setCell 0 _).setCell 1 _).setCell 2 _).setCell 3 _).setCell 4 _
theorem set_other (w : World) (b o o' : Nat) (v : Value) (h : o' ≠ o) : (w.setCell ⟨b, o, none⟩ v).cell? ⟨b, o', none⟩ = w.cell? ⟨b, o', none⟩ :=
  World.cell?_setCell_other w ⟨b, o, none⟩ ⟨b, o', none⟩ v (fun hh => h (by have := congrArg Addr.off hh; simp at this; omega))
theorem set_same {w : World} {b o : Nat} {u : Value} (v : Value) (h : w.cell? ⟨b, o, none⟩ = some u) : (w.setCell ⟨b, o, none⟩ v).cell? ⟨b, o, none⟩ = some v := World.cell?_setCell_same' _ _ _ (by rw [h]; rfl)
theorem Lc.set0 {w : World} {b : Nat} {n s ep : Int} {sv mv : Value} (h : Lc w b n s ep sv mv) (x : Int) : Lc (w.setCell ⟨b, 0, none⟩ (.int .i64 x)) b x s ep sv mv :=
  ⟨set_same _ h.c0, (set_other _ _ _ _ _ (by omega)).trans h.c1, (set_other _ _ _ _ _ (by omega)).trans h.c2, (set_other _ _ _ _ _ (by omega)).trans h.c3, (set_other _ _ _ _ _ (by omega)).trans h.c4⟩
theorem Lc.set1 {w : World} {b : Nat} {n s ep : Int} {sv mv : Value} (h : Lc w b n s ep sv mv) (x : Int) : Lc (w.setCell ⟨b, 1, none⟩ (.int .i64 x)) b n x ep sv mv :=
  ⟨(set_other _ _ _ _ _ (by omega)).trans h.c0, set_same _ h.c1, (set_other _ _ _ _ _ (by omega)).trans h.c2, (set_other _ _ _ _ _ (by omega)).trans h.c3, (set_other _ _ _ _ _ (by omega)).trans h.c4⟩
theorem Lc.set2 {w : World} {b : Nat} {n s ep : Int} {sv mv : Value} (h : Lc w b n s ep sv mv) (x : Int) : Lc (w.setCell ⟨b, 2, none⟩ (.int .i64 x)) b n s x sv mv :=
  ⟨(set_other _ _ _ _ _ (by omega)).trans h.c0, (set_other _ _ _ _ _ (by omega)).trans h.c1, set_same _ h.c2, (set_other _ _ _ _ _ (by omega)).trans h.c3, (set_other _ _ _ _ _ (by omega)).trans h.c4⟩
theorem Lc.set3 {w : World} {b : Nat} {n s ep : Int} {sv mv : Value} (h : Lc w b n s ep sv mv) (x : Value) : Lc (w.setCell ⟨b, 3, none⟩ x) b n s ep x mv :=
  ⟨(set_other _ _ _ _ _ (by omega)).trans h.c0, (set_other _ _ _ _ _ (by omega)).trans h.c1, (set_other _ _ _ _ _ (by omega)).trans h.c2, set_same _ h.c3, (set_other _ _ _ _ _ (by omega)).trans h.c4⟩
theorem Lc.set4 {w : World} {b : Nat} {n s ep : Int} {sv mv : Value} (h : Lc w b n s ep sv mv) (x : Value) : Lc (w.setCell ⟨b, 4, none⟩ x) b n s ep sv x :=
  ⟨(set_other _ _ _ _ _ (by omega)).trans h.c0, (set_other _ _ _ _ _ (by omega)).trans h.c1, (set_other _ _ _ _ _ (by omega)).trans h.c2, (set_other _ _ _ _ _ (by omega)).trans h.c3, set_same _ h.c4⟩
theorem Lc.over {w : World} {b : Nat} {n s ep n2 s2 ep2 : Int} {sv mv sv2 mv2 : Value} (h : Lc w b n s ep sv mv) : Lc (over w b n2 s2 ep2 sv2 mv2) b n2 s2 ep2 sv2 mv2 := ((((h.set0 n2).set1 s2).set2 ep2).set3 sv2).set4 mv2
theorem Trd.fe {b : Nat} {w w' : World} (h : Trd b w w') {e : TypeId} {base : Nat} {v : Value} {n : Nat} {f : Nat → Int} (k : Fe e w base v n f) (hb : v.ownBlock ≠ some b) : Fe e w' base v n f := by
  rcases k.2 with ⟨h', h0⟩ | ⟨g, cap, cur, h', hb', hg, hr⟩
  · exact ⟨k.1, .inl ⟨h', h0⟩⟩
  · subst h'
    exact ⟨k.1, .inr ⟨g, cap, cur, rfl, hb', (h.block g (fun e => hb (by rw [e]; rfl))).trans hg, hr⟩⟩
/-- m bytes of a number laid from off on, the highest first. -/
def laid (f : Nat → Nat) (off m x i : Nat) : Nat := if off ≤ i ∧ i < off + m then be x m (i - off) else f i
def lay1 (f : Nat → Nat) (off m x j i : Nat) : Nat := if off + m - j ≤ i ∧ i < off + m then be x m (i - off) else f i
theorem lay1_zero (f : Nat → Nat) (off m x i : Nat) : lay1 f off m x 0 i = f i := by unfold lay1; rw [if_neg (by omega)]
theorem lay1_all (f : Nat → Nat) (off m x i : Nat) : lay1 f off m x m i = laid f off m x i := by
  unfold lay1 laid
  by_cases h : off ≤ i ∧ i < off + m
  · rw [if_pos h, if_pos (by omega)]
  · rw [if_neg h, if_neg (by omega)]
theorem lay1_step (f : Nat → Nat) (off m x j i : Nat) (hj : j < m) : (if i = off + (m - 1 - j) then x / 256 ^ j % 256 else lay1 f off m x j i) = lay1 f off m x (j + 1) i := by
  unfold lay1
  by_cases h : i = off + (m - 1 - j)
  · rw [if_pos h, if_pos (by omega)]
    unfold be
    rw [h, show m - 1 - (off + (m - 1 - j) - off) = j by omega]
  · rw [if_neg h]
    by_cases h2 : off + m - j ≤ i ∧ i < off + m
    · rw [if_pos h2, if_pos (by omega)]
    · rw [if_neg h2, if_neg (by omega)]
theorem div_step (x j : Nat) : x / 256 ^ j / 256 = x / 256 ^ (j + 1) := by rw [Nat.pow_succ, Nat.div_div_eq_div_mul]
set_option maxRecDepth 100000 in
set_option maxHeartbeats 1000000 in
theorem store_any (B n off m cap x : Nat) (f : Nat → Nat) (w : World) (hx : x < 18446744073709551616) (hm : off + m ≤ n) (hn : n ≤ 100) (h : Byt w B n f) : Calls Try.prog 27 #[.slice (some ⟨B, off, none⟩) m cap, .int .u64 (x : Nat)] w fun e w' => e = .returned (.tuple #[]) ∧ Byt w' B n (laid f off m x) ∧ Trd B w w' := by
  have HB : Hid (Byt w B n f) := h
  clear h
  go_enter Try.func27, Try.ntmps27
  go_wp2
  go_loopw [1, 4] (fun X i wr => ∃ j q : Nat, j ≤ m ∧ i = .int .i64 ((m : Int) - 1 - j) ∧ X = .int .u64 (q : Nat) ∧ Hid (q = x / 256 ^ j) ∧ Hid (Byt wr B n (lay1 f off m x j)) ∧ Trd B w wr) (fun _ i _ => (intOf i + 1).toNat)
  case atStart => exact ⟨0, x, Nat.zero_le _, by simp, rfl, by show x = _; simp, HB.out.congr (fun i _ => (lay1_zero f off m x i).symm), Trd.refl B w⟩
  case round =>
    obtain ⟨j, q, hj, rfl, rfl, HQ, HL, hT⟩ := hrel
    have hq : q < 18446744073709551616 := by have := HQ.out; rw [this]; exact Nat.lt_of_le_of_lt (Nat.div_le_self _ _) hx
    by_cases hlt : j < m
    · obtain ⟨r, hr⟩ : ∃ r : Nat, (m : Int) - 1 - j = r := ⟨m - 1 - j, by omega⟩
      have hrm : r < m := by omega
      have c0 := HL.out.cell (off + r) (by omega)
      have z0 := HL.out.free (off + r) (by omega)
      have HR : Hid ((m : Int) - 1 - j = r) := hr
      have HR2 : Hid (off + r = off + (m - 1 - j)) := by show off + r = _; omega
      rw [hr]
      clear hr
      go_wp2
      go_roundw
      case rel =>
        refine ⟨j + 1, q / 256, by omega, ?_, ?_, ?_, ?_, hT.setCell _ _⟩
        · have := HR.out
          congr 1
          omega
        · rfl
        · show q / 256 = _; rw [HQ.out, div_step]
        · refine (HL.out.set (off + r) (q % 256)).congr (fun i _ => ?_)
          rw [← lay1_step f off m x j i hlt, HR2.out, HQ.out]
      case measure => have := HR.out; simp [intOf]
    · obtain rfl : j = m := by omega
      have HL2 : Hid (Byt wr B n (laid f off j x)) := HL.out.congr (fun i _ => lay1_all f off j x i)
      have hneg : decide ((j : Int) - 1 - j ≥ 0) = false := decide_eq_false (by omega)
      clear HL
      go_wp2
      refine bodyPost_end (results_none rfl _ _ _) rfl ?_
      exact ⟨rfl, HL2.out, hT⟩
theorem or_byte (n b : Nat) (hn : n < 72057594037927936) (hb : b < 256) : bits .or .u64 ((n * 256 : Nat) : Int) ((b : Nat) : Int) = ((256 * n + b : Nat) : Int) := by
  rw [u64_or_nat _ _ (by omega) (by omega), Nat.mul_comm]
  congr 1
  have := nat_join 8 (256 * n) b (by omega) (by omega)
  omega
set_option maxRecDepth 100000 in
set_option maxHeartbeats 1000000 in
theorem load8_any (s : ByteArray) (hs : s.size ≤ 8) (w : World) : Calls Try.prog 35 #[.string s] w fun e w' => e = .returned (.int .u64 (nmN (bf s) s.size : Nat)) ∧ w' = w := by
  go_enter Try.func35, Try.ntmps35
  go_wp2
  go_loop [3, 7] (fun X i => ∃ k q : Nat, k ≤ s.size ∧ i = .int .i64 k ∧ X = .int .u64 (q : Nat) ∧ Hid (q = nmN (bf s) k)) (fun _ i => s.size - (intOf i).toNat)
  case atStart => exact ⟨0, 0, by omega, rfl, rfl, rfl⟩
  case round =>
    obtain ⟨k, q, hk, rfl, rfl, HQ⟩ := hrel
    by_cases hlt : k < s.size
    · have hb := bf_lt s k
      have HB : Hid ((s[k]'hlt).toNat = bf s k) := bf_at s k hlt
      have hq : q < 72057594037927936 := by
        have h1 := nmN_lt (bf s) (bf_lt s) k
        have h2 : (256 : Nat) ^ k ≤ 256 ^ 7 := Nat.pow_le_pow_right (by omega) (by omega)
        have h3 : (256 : Nat) ^ 7 = 72057594037927936 := by decide +kernel
        have := HQ.out
        omega
      have e1 : (q : Int) * 256 % 18446744073709551616 = ((q * 256 : Nat) : Int) := by omega
      have e2 : (bf s k : Int) % 18446744073709551616 = (bf s k : Int) := by omega
      have HS : Hid (256 * q + bf s k = nmN (bf s) (k + 1)) := by show _ = 256 * nmN (bf s) k + bf s k; rw [HQ.out]
      have HO := or_byte q (bf s k) hq hb
      generalize bf s k = b at *
      go_wp2
      go_round
      case rel =>
        refine ⟨k + 1, 256 * q + b, by omega, by go_num, ?_, HS⟩
        rw [HB.out]
        rw [IntKind.wrap_u64, e2, show (q : Int) * 256 = ((q * 256 : Nat) : Int) by omega, HO]
      case measure => simp [intOf]; omega
    · obtain rfl : k = s.size := by omega
      go_wp2
      go_ret
      exact ⟨ret_int (by rw [HQ.out]), rfl⟩
set_option maxRecDepth 100000 in
set_option maxHeartbeats 1000000 in
theorem number_any (s : ByteArray) (hs : s.size ≤ 8) (w : World) : Calls Try.prog 37 #[.string s] w fun e w' => e = .returned (.int .u64 (nmN (bf s) s.size : Nat)) ∧ w' = w := by
  go_enter Try.func37, Try.ntmps37
  go_wp2
  go_loop [3, 4] (fun X i => ∃ k q : Nat, k ≤ s.size ∧ i = .int .i64 k ∧ X = .int .u64 (q : Nat) ∧ Hid (q = nmN (bf s) k)) (fun _ i => s.size - (intOf i).toNat)
  case atStart => exact ⟨0, 0, by omega, rfl, rfl, rfl⟩
  case round =>
    obtain ⟨k, q, hk, rfl, rfl, HQ⟩ := hrel
    by_cases hlt : k < s.size
    · have hb := bf_lt s k
      have HB : Hid ((s[k]'hlt).toNat = bf s k) := bf_at s k hlt
      have hq : q < 72057594037927936 := by
        have h1 := nmN_lt (bf s) (bf_lt s) k
        have h2 : (256 : Nat) ^ k ≤ 256 ^ 7 := Nat.pow_le_pow_right (by omega) (by omega)
        have h3 : (256 : Nat) ^ 7 = 72057594037927936 := by decide +kernel
        have := HQ.out
        omega
      have HS : Hid (256 * q + bf s k = nmN (bf s) (k + 1)) := by show _ = 256 * nmN (bf s) k + bf s k; rw [HQ.out]
      go_wp2
      go_round
      case rel =>
        refine ⟨k + 1, 256 * q + bf s k, by omega, by go_num, ?_, HS⟩
        rw [HB.out, IntKind.wrap_u64, IntKind.wrap_u64]
        congr 1
        omega
      case measure => simp [intOf]; omega
    · obtain rfl : k = s.size := by omega
      go_wp2
      go_ret
      exact ⟨ret_int (by rw [HQ.out]), rfl⟩

/-- a row of bytes of the call's own. -/
def Fb (w : World) (base : Nat) (v : Value) (n : Nat) (f : Nat → Nat) : Prop := w.ownsRow base 5 1 v n ((List.range n).map fun i => Value.int .u8 ((f i : Nat) : Int))
theorem info_u8 : (Try.prog.info? 5).map (fun i => (i.zero, i.size, i.bytes)) = some (some (.int .u8 0), 1, 1) := by kernel_rfl
theorem Fb.kept {w w' : World} {base : Nat} {v : Value} {n : Nat} {f : Nat → Nat} (h : Fb w base v n f) (k : Kp w w') : Fb w' base v n f := k.own h
theorem Fb.congr {w : World} {base : Nat} {v : Value} {n : Nat} {f g : Nat → Nat} (h : Fb w base v n f) (he : ∀ j, j < n → f j = g j) : Fb w base v n g := by
  have : ((List.range n).map fun i => Value.int .u8 ((g i : Nat) : Int)) = (List.range n).map fun i => Value.int .u8 ((f i : Nat) : Int) := List.map_congr_left fun i hi => by rw [he i (by simpa using hi)]
  unfold Fb
  rw [this]
  exact h
theorem Fb.shape {w : World} {base : Nat} {v : Value} {n : Nat} {f : Nat → Nat} (h : Fb w base v n f) (h0 : 0 < n) : ∃ g cap, v = .slice (some ⟨g, 0, none⟩) n cap ∧ n ≤ cap ∧ cap ≤ 9223372036854775807 ∧ base ≤ g ∧ g < w.heap.size := by
  rcases h.2 with ⟨rfl, rfl⟩ | ⟨g, cap, cur, rfl, hb, hg, hn, hm, _⟩
  · omega
  · unfold maxLen at hm
    exact ⟨g, cap, rfl, hn, by omega, hb, (Array.getElem?_eq_some_iff.1 hg).1⟩
theorem Fb.at {w : World} {base g n cap : Nat} {f : Nat → Nat} (h : Fb w base (.slice (some ⟨g, 0, none⟩) n cap) n f) (j : Nat) (hj : j < n) : w.cell? ⟨g, j, none⟩ = some (.int .u8 ((f j : Nat) : Int)) := by
  rw [World.ownsRow.cellAt h j (by omega)]
  simp [hj]
theorem Fb.byt {w : World} {base g n cap : Nat} {f : Nat → Nat} (h : Fb w base (.slice (some ⟨g, 0, none⟩) n cap) n f) : Byt w g n f := ⟨fun i hi => h.at i hi, fun i _ => World.ownsRow.frozenAt h i⟩
theorem Fb.made (w : World) (n : Nat) (hn : n ≤ 1000) : Fb (w.alloc (.cells (madeCells #[.int .u8 0] n) 5)) w.heap.size (.slice (some ⟨w.heap.size, 0, none⟩) n n) n (fun _ => 0) := by
  refine ⟨by simp, .inr ⟨w.heap.size, n, _, rfl, Nat.le_refl _, heap_alloc_new w _, Nat.le_refl _, by unfold maxLen; omega, by rw [size_madeCells]; simp, ?_⟩⟩
  apply List.ext_getElem?
  intro i
  by_cases hi : i < n
  · simp [madeCells, hi, Nat.mod_one]
  · simp [madeCells, hi, Nat.mod_one]
theorem Fb.snoc_list (n : Nat) (f : Nat → Nat) (x : Nat) : ((List.range n).map fun i => Value.int .u8 ((f i : Nat) : Int)) ++ [Value.int .u8 (x : Int)] = (List.range (n + 1)).map fun i => Value.int .u8 (((if i = n then x else f i : Nat) : Nat) : Int) := by
  rw [List.range_succ, List.map_append]
  congr 1
  · apply List.map_congr_left
    intro i hi
    have : i ≠ n := by have := List.mem_range.1 hi; omega
    rw [if_neg this]
  · simp
/-- one byte appended. -/
theorem wpList_append_u8 {w : World} {ops : Array Oper} {rest : List Oper} {o : Oper} {a : Act} {Q : Exit → Act → World → Prop} (hgd : o.guard = none) (s x : Operand)
    (ho : o.op = .call { callee := .builtin .append, args := #[s, x], argTypes := #[48, 48] })
    (base : Nat) (v : Value) (n : Nat) (f : Nat → Nat) (hs : a.eval s = v) (hown : Fb w base v n f) (p k : Nat) (hx : a.eval x = .slice (some ⟨k, 0, none⟩) 1 1) (hc : w.cell? ⟨k, 0, none⟩ = some (.int .u8 (p : Int)))
    (hlen : n ≤ 1000) (hbase : base ≤ w.heap.size)
    (h : ∀ v' w', Fb w' base v' (n + 1) (fun i => if i = n then p else f i) → w.grownBy w' v.ownBlock → wpList Try.prog ops Q rest (a.put o.dst v') w') : wpList Try.prog ops Q (o :: rest) a w := by
  obtain ⟨i0, hi, hz0, hz1, hz2⟩ := info_parts info_u8
  refine wpList_append_own_at w hgd s x 48 ho base 5 i0 (.int .u8 0) 1 1 Try.underlying48 hi hz0 hz1 hz2 rfl (by decide) v n _ hs hown ⟨k, 0, none⟩ 1 1 [.int .u8 (p : Int)] hx rfl ?_ (by simp [Value.oneCell']) (by unfold maxLen; omega) (by omega) hbase (fun v' w' h1 h2 _ _ => h v' w' ?_ h2)
  · intro j u hj
    match j, hj with
    | 0, hj => simp at hj; subst hj; simpa [Addr.add] using hc
  · unfold Fb
    rw [← Fb.snoc_list]
    exact h1
set_option maxRecDepth 100000 in
set_option maxHeartbeats 1000000 in
theorem big_any (m x : Nat) (w : World) (hx : x < 18446744073709551616) (hm : m ≤ 8) : Calls Try.prog 29 #[.int .u64 (x : Nat), .int .i64 (m : Nat)] w fun e w' => e = .returned (.slice (some ⟨w.heap.size, 0, none⟩) m m) ∧ Byt w' w.heap.size m (be x m) ∧ Kp w w' := by
  have hmk : (Instr.makeSlice 48 (.int .i64 (m : Int)) (.int .i64 (m : Int))).run Try.prog w = .ok (.slice (some ⟨w.heap.size, 0, none⟩) m m) (w.alloc (.cells (madeCells #[.int .u8 0] m) 5)) := run_make_row' (P := Try.prog) 48 5 (.int .u8 0) 1 Try.underlying48 info_u8 rfl .i64 .i64 m (by omega) (by omega) w
  have HB : Hid (Byt (w.alloc (.cells (madeCells #[.int .u8 0] m) 5)) w.heap.size m (fun _ => 0)) := (Fb.made w m (by omega)).byt
  have K1 : Kp w (w.alloc (.cells (madeCells #[.int .u8 0] m) 5)) := (Kp.refl w).alloc _
  obtain ⟨W, hW⟩ : ∃ W, W = w.alloc (.cells (madeCells #[.int .u8 0] m) 5) := ⟨_, rfl⟩
  rw [← hW] at hmk HB K1
  obtain ⟨B, hB⟩ : ∃ B, B = w.heap.size := ⟨_, rfl⟩
  rw [← hB] at hmk HB ⊢
  have HBW : Hid (B = w.heap.size) := hB
  clear hW hB
  go_enter Try.func29, Try.ntmps29
  go_wp2
  clear hmk
  go_loopw [0, 6] (fun X i wr => ∃ j q : Nat, j ≤ m ∧ i = .int .i64 ((m : Int) - 1 - j) ∧ X = .int .u64 (q : Nat) ∧ Hid (q = x / 256 ^ j) ∧ Hid (Byt wr B m (lay1 (fun _ => 0) 0 m x j)) ∧ Trd B W wr) (fun _ i _ => (intOf i + 1).toNat)
  case atStart => exact ⟨0, x, Nat.zero_le _, by simp, rfl, by show x = _; simp, HB.out.congr (fun i _ => (lay1_zero (fun _ => 0) 0 m x i).symm), Trd.refl B W⟩
  case round =>
    obtain ⟨j, q, hj, rfl, rfl, HQ, HL, hT⟩ := hrel
    have hq : q < 18446744073709551616 := by have := HQ.out; rw [this]; exact Nat.lt_of_le_of_lt (Nat.div_le_self _ _) hx
    by_cases hlt : j < m
    · obtain ⟨r, hr⟩ : ∃ r : Nat, (m : Int) - 1 - j = r := ⟨m - 1 - j, by omega⟩
      have hrm : r < m := by omega
      have c0 := HL.out.cell r (by omega)
      have z0 := HL.out.free r (by omega)
      have HR : Hid ((m : Int) - 1 - j = r) := hr
      have HR2 : Hid (r = 0 + (m - 1 - j)) := by show r = _; omega
      rw [hr]
      clear hr
      go_wp2
      go_roundw
      case rel =>
        refine ⟨j + 1, q / 256, by omega, ?_, ?_, ?_, ?_, hT.setCell _ _⟩
        · have := HR.out
          congr 1
          omega
        · rfl
        · show q / 256 = _; rw [HQ.out, div_step]
        · have h1 := (HL.out.set r (q % 256)).congr (g := lay1 (fun _ => 0) 0 m x (j + 1)) (fun i _ => by
            rw [← lay1_step _ 0 m x j i hlt, HR2.out, HQ.out])
          have e : ((q % 256 % 256 : Nat) : Int) = ((q % 256 : Nat) : Int) := by omega
          first | exact h1 | simpa using h1
      case measure => have := HR.out; simp [intOf]
    · obtain rfl : j = m := by omega
      have HL2 : Hid (Byt wr B j (be x j)) := HL.out.congr (fun i hi => by rw [lay1_all]; unfold laid; rw [if_pos (by omega)]; rfl)
      have hneg : decide ((j : Int) - 1 - j ≥ 0) = false := decide_eq_false (by omega)
      have KW : Hid (Kp w wr) := hT.kp w K1 (by rw [HBW.out]; exact Nat.le_refl _)
      clear HL
      go_wp2
      go_ret
      exact ⟨rfl, HL2.out, KW.out⟩

end Go.Proofs.Ytobpgfnmhpgkeaa
