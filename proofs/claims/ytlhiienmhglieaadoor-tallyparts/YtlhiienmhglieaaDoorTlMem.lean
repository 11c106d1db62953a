/-
  A tally in memory; contracts of its atomic counts, of New, Add, Get, Note, Most, and of Kind's known. Conditions: what the tally's cells hold.
-/
import Derived.Test.YtlhiienmhglieaaDoorTlPlain
import Derived.Test.YtlhiienmhglieaaDoorMmTail
import Derived.Test.YtlhiienmhglieaaDoorBufMem
import Derived.Shelf.Small.Bits
import Derived.Laws.LoneSync
import Derived.RegionTactic
import Derived.Deep.MidRow
import Derived.RegionCalls
import Derived.Test.YtlhiienmhglieaaDoorProg
namespace Go.Proofs
open Go.Shelf
def Tryd.lays129_ren : Go.Shelf.Ren := ⟨fun | 129 => 22 | n => n, fun | 53 => 66 | 3 => 3 | 4 => 4 | 46 => 78 | 5 => 5 | 9 => 9 | n => n, fun | n => n⟩
theorem Tryd.lays129 : Go.Proofs.Lays.n129 Tryd.prog Tryd.lays129_ren := {
  mixed := by kernel_rfl
  f129 := Tryd.func22.trans (congrArg some (by kernel_rfl))
  t3 := Tryd.underlying3
  a3 := Tryd.isAgg3
  z3 := Tryd.sizeOf3
  v3 := Tryd.zeroValue3
  t4 := Tryd.underlying4
  a4 := Tryd.isAgg4
  z4 := Tryd.sizeOf4
  v4 := Tryd.zeroValue4
  t5 := Tryd.underlying5
  a5 := Tryd.isAgg5
  z5 := Tryd.sizeOf5
  v5 := Tryd.zeroValue5
  t9 := Tryd.underlying9
  a9 := Tryd.isAgg9
  z9 := Tryd.sizeOf9
  v9 := Tryd.zeroValue9
  t46 := Tryd.underlying78
  a46 := Tryd.isAgg78
  z46 := Tryd.sizeOf78
  v46 := Tryd.zeroValue78
  t53 := Tryd.underlying66
  a53 := Tryd.isAgg66
  z53 := Tryd.sizeOf66
  v53 := Tryd.zeroValue66 }
end Go.Proofs
namespace Go.Proofs.YtlhiienmhglieaaDoor
open Go.RowKit
set_option linter.unusedVariables false

theorem imin {P : Program} (ts : Array TypeId) (t : TypeId) (x y : Int) (w : World) : (Builtin.min_ ts t #[.int .i64 x, .int .i64 y]).run P w = .ok (.int .i64 (min x y)) w := by
  rw [run_min_int2]
  congr 2
  split <;> omega
theorem imax {P : Program} (ts : Array TypeId) (t : TypeId) (x y : Int) (w : World) : (Builtin.max_ ts t #[.int .i64 x, .int .i64 y]).run P w = .ok (.int .i64 (max x y)) w := by
  rw [run_max_int2]
  congr 2
  split <;> omega

theorem len_any (x : Int) (w : World) (h0 : 0 ≤ x) (h1 : x ≤ 18446744073709551615) : Calls Tryd.prog 22 #[.int .u64 x] w fun e w' => e = .returned (.int .i64 (Lib.bitLen x.toNat)) ∧ w' = w := Any.bits_Len64 Tryd.lays129 x w h0 h1

theorem cell_off (w : World) (b o o' : Nat) (v : Value) (h : o' ≠ o) : (w.setCell ⟨b, o, none⟩ v).cell? ⟨b, o', none⟩ = w.cell? ⟨b, o', none⟩ :=
  World.cell?_setCell_other w ⟨b, o, none⟩ ⟨b, o', none⟩ v (fun hh => h (by have := congrArg Addr.off hh; simp at this; omega))

/-- w' is w with whatever is new behind it, and with stores into the blocks of T. -/
structure Sp (T : List Nat) (w w' : World) : Prop where
  os : w'.os = w.os
  tape : w'.tape = w.tape
  output : w'.output = w.output
  size : w.heap.size ≤ w'.heap.size
  block : ∀ k, k < w.heap.size → k ∉ T → w'.heap[k]? = w.heap[k]?
theorem Sp.refl (T : List Nat) (w : World) : Sp T w w := ⟨rfl, rfl, rfl, Nat.le_refl _, fun _ _ _ => rfl⟩
theorem Sp.trans {T : List Nat} {a b c : World} (h : Sp T a b) (k : Sp T b c) : Sp T a c :=
  ⟨k.os.trans h.os, k.tape.trans h.tape, k.output.trans h.output, Nat.le_trans h.size k.size, fun i hi hn => (k.block i (Nat.lt_of_lt_of_le hi h.size) hn).trans (h.block i hi hn)⟩
theorem Sp.mono {T T' : List Nat} {a b : World} (h : Sp T a b) (hs : ∀ t, t ∈ T → t ∈ T') : Sp T' a b :=
  ⟨h.os, h.tape, h.output, h.size, fun i hi hn => h.block i hi (fun ht => hn (hs i ht))⟩
theorem Kp.sp {a b : World} (h : Kp a b) (T : List Nat) : Sp T a b := ⟨h.os, h.tape, h.output, h.size, fun i hi _ => h.block i hi⟩
theorem Sp.set {T : List Nat} {a b : World} (h : Sp T a b) (B i : Nat) (hB : B ∈ T) (v : Value) : Sp T a (b.setCell ⟨B, i, none⟩ v) :=
  h.trans ⟨rfl, rfl, rfl, by simp [World.setCell], fun k _ hk => Below.heap_setCell _ _ _ _ (fun e => hk (by rw [e]; exact hB))⟩
theorem Sp.kp {T : List Nat} {w0 w w' : World} (h0 : Kp w0 w) (h : Sp T w w') (hT : ∀ t, t ∈ T → w0.heap.size ≤ t) : Kp w0 w' :=
  ⟨h.os.trans h0.os, h.tape.trans h0.tape, h.output.trans h0.output, Nat.le_trans h0.size h.size, fun k hk => (h.block k (Nat.lt_of_lt_of_le hk h0.size) (fun ht => by have := hT k ht; omega)).trans (h0.block k hk)⟩
theorem Sp.cell {T : List Nat} {w w' : World} (h : Sp T w w') {b : Nat} (hb : b < w.heap.size) (hn : b ∉ T) (o : Nat) : w'.cell? ⟨b, o, none⟩ = w.cell? ⟨b, o, none⟩ := World.cell?_of_block (w := w) (a := ⟨b, o, none⟩) (h.block b hb hn)
theorem Sp.frozen {T : List Nat} {w w' : World} (h : Sp T w w') {b : Nat} (hb : b < w.heap.size) (hn : b ∉ T) (o : Nat) : w'.frozen? ⟨b, o, none⟩ = w.frozen? ⟨b, o, none⟩ := World.frozen?_of_block (w := w) (a := ⟨b, o, none⟩) (h.block b hb hn)
theorem Sp.held {T : List Nat} {w w' : World} (h : Sp T w w') {b o : Nat} {v : Value} (hc : w.cell? ⟨b, o, none⟩ = some v) (hn : b ∉ T) : w'.cell? ⟨b, o, none⟩ = some v := (h.cell (World.block_lt_of_cell? w _ hc) hn o).trans hc
theorem Sp.range {T : List Nat} {w w' : World} (h : Sp T w w') {b o : Nat} {cs : List Value} (hc : w.rangeAt b o cs) (hn : b ∉ T) : w'.rangeAt b o cs := fun j v hv => h.held (hc j v hv) hn

/-- a tally at block t. -/
structure TlIn (w : World) (t : Nat) (s : TS) : Prop where
  hb : t < w.heap.size
  c : ∀ j, j < 9 → w.cell? ⟨t, j, none⟩ = some (.int .i64 (s.c j))
  b : ∀ j, j < 64 → w.cell? ⟨t, 9 + j, none⟩ = some (.int .i64 (s.b j))
  m : w.cell? ⟨t, 73, none⟩ = some (.int .i64 s.m)
  z : ∀ o, w.frozen? ⟨t, o, none⟩ = false
theorem TlIn.sp {w w' : World} {t : Nat} {s : TS} (h : TlIn w t s) {T : List Nat} (k : Sp T w w') (ht : t ∉ T) : TlIn w' t s :=
  ⟨Nat.lt_of_lt_of_le h.hb k.size, fun j hj => k.held (h.c j hj) ht, fun j hj => k.held (h.b j hj) ht, k.held h.m ht, fun o => (k.frozen h.hb ht o).trans (h.z o)⟩
theorem TlIn.kp {w w' : World} {t : Nat} {s : TS} (h : TlIn w t s) (k : Kp w w') : TlIn w' t s := h.sp (k.sp []) (by simp)
theorem TlIn.setC {w : World} {t : Nat} {s : TS} (h : TlIn w t s) (j : Nat) (hj : j < 9) (x : Int) (s' : TS) (e : ∀ i, i < 9 → s'.c i = if i = j then x else s.c i) (eb : s'.b = s.b) (em : s'.m = s.m) : TlIn (w.setCell ⟨t, j, none⟩ (.int .i64 x)) t s' := by
  refine ⟨by simpa [World.setCell] using h.hb, fun i hi => ?_, fun i hi => ?_, ?_, fun o => (World.frozen?_setCell _ _ _ _).trans (h.z o)⟩
  · rw [e i hi]
    by_cases hij : i = j
    · subst hij; rw [World.cell?_setCell_same _ _ _ (h.c i hi), if_pos rfl]
    · rw [cell_off _ _ _ _ _ (by omega), h.c i hi, if_neg hij]
  · rw [cell_off _ _ _ _ _ (by omega), h.b i hi, eb]
  · rw [cell_off _ _ _ _ _ (by omega), h.m, em]
theorem TlIn.setB {w : World} {t : Nat} {s : TS} (h : TlIn w t s) (j : Nat) (hj : j < 64) (x : Int) (s' : TS) (e : ∀ i, i < 64 → s'.b i = if i = j then x else s.b i) (ec : s'.c = s.c) (em : s'.m = s.m) : TlIn (w.setCell ⟨t, 9 + j, none⟩ (.int .i64 x)) t s' := by
  refine ⟨by simpa [World.setCell] using h.hb, fun i hi => ?_, fun i hi => ?_, ?_, fun o => (World.frozen?_setCell _ _ _ _).trans (h.z o)⟩
  · rw [cell_off _ _ _ _ _ (by omega), h.c i hi, ec]
  · rw [e i hi]
    by_cases hij : i = j
    · subst hij; rw [World.cell?_setCell_same _ _ _ (h.b i hi), if_pos rfl]
    · rw [cell_off _ _ _ _ _ (by omega), h.b i hi, if_neg hij]
  · rw [cell_off _ _ _ _ _ (by omega), h.m, em]
theorem TlIn.setM {w : World} {t : Nat} {s : TS} (h : TlIn w t s) (x : Int) (s' : TS) (e : s'.m = x) (ec : s'.c = s.c) (eb : s'.b = s.b) : TlIn (w.setCell ⟨t, 73, none⟩ (.int .i64 x)) t s' := by
  refine ⟨by simpa [World.setCell] using h.hb, fun i hi => ?_, fun i hi => ?_, ?_, fun o => (World.frozen?_setCell _ _ _ _).trans (h.z o)⟩
  · rw [cell_off _ _ _ _ _ (by omega), h.c i hi, ec]
  · rw [cell_off _ _ _ _ _ (by omega), h.b i hi, eb]
  · rw [World.cell?_setCell_same _ _ _ h.m, e]

/-! ### the atomic cells -/
theorem iload (a : Addr) (d : Int) (w : World) (hc : w.cell? a = some (.int .i64 d)) : Calls Tryd.prog 32 #[.pointer (some a)] w fun e w' => e = .returned (.int .i64 d) ∧ w' = w := by
  have hl := run_call_load (P := Tryd.prog) Tryd.func37 (by kernel_rfl) (by kernel_rfl) (by kernel_rfl) .i64 (by kernel_rfl) hc
  go_enter Tryd.func32, Tryd.ntmps32
  go_wp2
  go_ret
  exact ⟨rfl, rfl⟩
theorem icas (a : Addr) (d y : Int) (w : World) (hc : w.cell? a = some (.int .i64 d)) (hz : w.frozen? a = false) : Calls Tryd.prog 34 #[.pointer (some a), .int .i64 d, .int .i64 y] w fun e w' => e = .returned (.bool true) ∧ w' = w.setCell a (.int .i64 y) := by
  have hl := run_call_cas_hit (P := Tryd.prog) Tryd.func38 (by kernel_rfl) (by kernel_rfl) (by kernel_rfl) .i64 (by kernel_rfl) (y := y) hc hz
  go_enter Tryd.func34, Tryd.ntmps34
  go_wp2
  go_ret
  exact ⟨rfl, rfl⟩
theorem iadd (a : Addr) (d y s : Int) (w : World) (hc : w.cell? a = some (.int .i64 d)) (hz : w.frozen? a = false) (hs : s = d + y) (h1 : -9223372036854775808 ≤ s) (h2 : s ≤ 9223372036854775807) : Calls Tryd.prog 23 #[.pointer (some a), .int .i64 y] w fun e w' => e = .returned (.int .i64 s) ∧ w' = w.setCell a (.int .i64 s) := by
  have hadd := run_call_add (P := Tryd.prog) Tryd.func33 (by kernel_rfl) (by kernel_rfl) (by kernel_rfl) .i64 (by kernel_rfl) (y := y) (s := s) hc hz (by simp [go_sem, IntKind.wrap_i64]; omega)
  clear hs
  go_enter Tryd.func23, Tryd.ntmps23
  go_wp2
  go_ret
  exact ⟨rfl, rfl⟩
theorem istore (a : Addr) (x : Value) (d : Int) (w : World) (hc : w.cell? a = some x) (hz : w.frozen? a = false) : Calls Tryd.prog 25 #[.pointer (some a), .int .i64 d] w fun e w' => e = .returned (.tuple #[]) ∧ w' = w.setCell a (.int .i64 d) := by
  have hst := run_call_store (P := Tryd.prog) Tryd.func35 (by kernel_rfl) (by kernel_rfl) (by kernel_rfl) (by kernel_rfl) (k := .i64) (y := d) hc hz
  go_enter Tryd.func25, Tryd.ntmps25
  go_wp2
  go_end0
  exact ⟨rfl, rfl⟩

def knB (k : Int) : Bool := decide (0 ≤ k ∧ k < 9)
theorem known_any (k : Int) (w : World) : Calls Tryd.prog 29 #[.int .i64 k] w fun e w' => e = .returned (.bool (knB k)) ∧ w' = w := by
  unfold knB
  by_cases h1 : 0 ≤ k
  · by_cases h2 : k < 9
    · rw [decide_eq_true (p := 0 ≤ k ∧ k < 9) ⟨h1, h2⟩]
      go_enter Tryd.func29, Tryd.ntmps29
      go_wp2
      go_ret
      exact ⟨by simp, rfl⟩
    · rw [decide_eq_false (p := 0 ≤ k ∧ k < 9) (by omega)]
      have h2' : 9 ≤ k := by omega
      clear h2
      go_enter Tryd.func29, Tryd.ntmps29
      go_wp2
      go_ret
      exact ⟨by simp; omega, rfl⟩
  · rw [decide_eq_false (p := 0 ≤ k ∧ k < 9) (by omega)]
    have h1' : k < 0 := by omega
    clear h1
    go_enter Tryd.func29, Tryd.ntmps29
    go_wp2
    go_ret
    exact ⟨rfl, rfl⟩

def zF : Array Value := Array.replicate 74 (.int .i64 0)
theorem zero_tally (w : World) : (zeroValue 65).run Tryd.prog w = .ok (.agg zF) w := by kernel_rfl
theorem zF_at (i : Nat) (h : i < 74) : zF[i]? = some (.int .i64 0) := by
  unfold zF
  rw [Array.getElem?_replicate, if_pos h]
theorem new_tl (w : World) (t : TypeId) : TlIn (w.alloc (.cells zF t)) w.heap.size tz := by
  have at_ : ∀ i, i < 74 → (w.alloc (.cells zF t)).cell? ⟨w.heap.size, i, none⟩ = some (.int .i64 0) := fun i hi => by
    rw [World.cell?_alloc_at _ _ _ _ rfl]; exact zF_at i hi
  exact ⟨by simp, fun j hj => at_ j (by omega), fun j hj => at_ (9 + j) (by omega), at_ 73 (by omega), fun o => World.frozen?_alloc_at _ _ _ _ rfl⟩
set_option maxRecDepth 100000 in
set_option maxHeartbeats 2000000 in
theorem new_any (w : World) : Calls Tryd.prog 7 #[] w fun e w' => e = .returned (.pointer (some ⟨w.heap.size, 0, none⟩)) ∧ TlIn w' w.heap.size tz ∧ Kp w w' := by
  have hz := zero_tally
  go_enter Tryd.func7, Tryd.ntmps7
  go_wp2
  go_ret
  exact ⟨rfl, new_tl w _, (Kp.refl w).alloc _⟩

def fnV (t : Nat) (k : Int) : Value := if 0 ≤ k ∧ k < 9 then .pointer (some ⟨t, k.toNat, none⟩) else .pointer none
set_option maxHeartbeats 1000000 in
theorem find_any (t : Nat) (k : Int) (w : World) : Calls Tryd.prog 26 #[.pointer (some ⟨t, 0, none⟩), .int .i64 k] w fun e w' => e = .returned (fnV t k) ∧ w' = w := by
  have hK := known_any k w
  unfold fnV
  by_cases hb : 0 ≤ k ∧ k < 9
  · rw [if_pos hb]
    rw [show knB k = true from decide_eq_true hb] at hK
    obtain ⟨n, rfl⟩ : ∃ n : Nat, k = n := ⟨k.toNat, by omega⟩
    have hn : n < 9 := by omega
    rw [show ((n : Nat) : Int).toNat = n by omega]
    clear hb
    go_enter Tryd.func26, Tryd.ntmps26
    go_wp2_with fail
    refine hK.mono ?_; rintro e w' ⟨rfl, rfl⟩
    go_wp2
    go_ret
    exact ⟨rfl, rfl⟩
  · rw [if_neg hb]
    rw [show knB k = false from decide_eq_false hb] at hK
    clear hb
    go_enter Tryd.func26, Tryd.ntmps26
    go_wp2_with fail
    refine hK.mono ?_; rintro e w' ⟨rfl, rfl⟩
    go_wp2
    go_ret
    exact ⟨rfl, rfl⟩

set_option maxHeartbeats 1000000 in
theorem more_any (a : Addr) (d n : Int) (w : World) (hc : w.cell? a = some (.int .i64 d)) (hz : w.frozen? a = false) (h0 : 0 ≤ d) (h1 : d ≤ 4611686018427387904) (hn : 0 < n) (hn2 : n ≤ 9223372036854775807) : Calls Tryd.prog 27 #[.pointer (some a), .int .i64 n] w fun e w' => e = .returned (.tuple #[]) ∧ w' = w.setCell a (.int .i64 (adC d n)) := by
  have hmin := imin (P := Tryd.prog) #[2, 2] 2 n (4611686018427387904 - d) w
  have hx1 : IntKind.i64.wrap (4611686018427387904 - d) = 4611686018427387904 - d := by rw [IntKind.wrap_i64]; omega
  have hx2 : IntKind.i64.wrap (d + min n (4611686018427387904 - d)) = d + min n (4611686018427387904 - d) := by rw [IntKind.wrap_i64]; omega
  have hC := icas a d (d + min n (4611686018427387904 - d)) w hc hz
  go_enter Tryd.func27, Tryd.ntmps27
  go_wp2_with fail
  go_loopw [4] (fun _ wr => wr = w) (fun _ _ => 0)
  case atStart => rfl
  case round =>
    subst hrel
    go_wp2_with fail
    refine (iload a d _ hc).mono ?_; rintro e w1 ⟨rfl, rfl⟩
    go_wp2_with fail
    refine hC.mono ?_; rintro e w2 ⟨rfl, rfl⟩
    go_wp2
    refine bodyPost_ret (results_none rfl _ _ _) rfl ?_
    exact ⟨rfl, rfl⟩

set_option maxHeartbeats 1000000 in
theorem reach_any (a : Addr) (d n : Int) (w : World) (hc : w.cell? a = some (.int .i64 d)) (hz : w.frozen? a = false) : Calls Tryd.prog 24 #[.pointer (some a), .int .i64 n] w fun e w' => e = .returned (.tuple #[]) ∧ (w' = w.setCell a (.int .i64 (max d n)) ∨ w' = w ∧ max d n = d) := by
  by_cases h : n ≤ d
  · have hm : max d n = d := by omega
    clear hz
    go_enter Tryd.func24, Tryd.ntmps24
    go_wp2_with fail
    go_loopw [4] (fun _ wr => wr = w) (fun _ _ => 0)
    case atStart => rfl
    case round =>
      subst hrel
      go_wp2_with fail
      refine (iload a d _ hc).mono ?_; rintro e w1 ⟨rfl, rfl⟩
      go_wp2
      refine bodyPost_ret (results_none rfl _ _ _) rfl ?_
      exact ⟨rfl, .inr ⟨rfl, hm⟩⟩
  · have hm : max d n = n := by omega
    have h' : d < n := by omega
    rw [hm]
    clear h hm
    have hC := icas a d n w hc hz
    go_enter Tryd.func24, Tryd.ntmps24
    go_wp2_with fail
    go_loopw [4] (fun _ wr => wr = w) (fun _ _ => 0)
    case atStart => rfl
    case round =>
      subst hrel
      go_wp2_with fail
      refine (iload a d _ hc).mono ?_; rintro e w1 ⟨rfl, rfl⟩
      go_wp2_with fail
      refine hC.mono ?_; rintro e w2 ⟨rfl, rfl⟩
      go_wp2
      refine bodyPost_ret (results_none rfl _ _ _) rfl ?_
      exact ⟨rfl, .inl rfl⟩

set_option maxHeartbeats 1000000 in
theorem add_any (t : Nat) (s : TS) (N k n : Int) (w : World) (h : TlIn w t s) (ho : Ok s N) (hn : n ≤ 9223372036854775807) : Calls Tryd.prog 12 #[.pointer (some ⟨t, 0, none⟩), .int .i64 k, .int .i64 n] w fun e w' => e = .returned (.tuple #[]) ∧ TlIn w' t (ad s k n) ∧ Sp [t] w w' := by
  have hF := find_any t k w
  by_cases hb : 0 ≤ k ∧ k < 9
  · unfold fnV at hF
    rw [if_pos hb] at hF
    obtain ⟨j, rfl⟩ : ∃ j : Nat, k = j := ⟨k.toNat, by omega⟩
    have hj : j < 9 := by omega
    rw [show ((j : Nat) : Int).toNat = j by omega] at hF
    by_cases h0 : 0 < n
    · have hM := more_any ⟨t, j, none⟩ (s.c j) n w (h.c j hj) (h.z j) (ho.c j).1 (ho.c j).2 h0 hn
      have hE : TlIn (w.setCell ⟨t, j, none⟩ (.int .i64 (adC (s.c j) n))) t (ad s j n) := h.setC j hj _ _ (fun i hi => by
        show (if (0 ≤ (j : Int) ∧ (j : Int) < 9 ∧ 0 < n) ∧ i = ((j : Nat) : Int).toNat then adC (s.c i) n else s.c i) = _
        by_cases e : i = j
        · subst e; rw [if_pos ⟨⟨by omega, by omega, h0⟩, by omega⟩, if_pos rfl]
        · rw [if_neg (fun hh => e (by omega)), if_neg e]) rfl rfl
      have hS : Sp [t] w (w.setCell ⟨t, j, none⟩ (.int .i64 (adC (s.c j) n))) := (Sp.refl [t] w).set t j (by simp) _
      clear hb h ho
      go_enter Tryd.func12, Tryd.ntmps12
      go_wp2_with fail
      refine hF.mono ?_; rintro e w1 ⟨rfl, rfl⟩
      go_wp2_with fail
      refine hM.mono ?_; rintro e w2 ⟨rfl, rfl⟩
      go_wp2
      go_end0
      exact ⟨rfl, hE, hS⟩
    · have h0' : n ≤ 0 := by omega
      have e : ad s j n = s := TS.ext' (fun i => by show (if _ then _ else _) = _; rw [if_neg (fun hh => by omega)]) (fun _ => rfl) rfl
      rw [e]
      clear hb h0 ho e
      go_enter Tryd.func12, Tryd.ntmps12
      go_wp2_with fail
      refine hF.mono ?_; rintro e w1 ⟨rfl, rfl⟩
      go_wp2
      go_end0
      exact ⟨rfl, h, Sp.refl _ _⟩
  · unfold fnV at hF
    rw [if_neg hb] at hF
    have e : ad s k n = s := TS.ext' (fun i => by show (if _ then _ else _) = _; rw [if_neg (fun hh => hb ⟨hh.1.1, hh.1.2.1⟩)]) (fun _ => rfl) rfl
    rw [e]
    clear hb ho e
    go_enter Tryd.func12, Tryd.ntmps12
    go_wp2_with fail
    refine hF.mono ?_; rintro e w1 ⟨rfl, rfl⟩
    go_wp2
    go_end0
    exact ⟨rfl, h, Sp.refl _ _⟩

set_option maxHeartbeats 1000000 in
theorem get_any (t : Nat) (s : TS) (k : Int) (w : World) (h : TlIn w t s) : Calls Tryd.prog 21 #[.pointer (some ⟨t, 0, none⟩), .int .i64 k] w fun e w' => e = .returned (.int .i64 (gt s k)) ∧ w' = w := by
  have hF := find_any t k w
  unfold fnV at hF
  unfold gt
  by_cases hb : 0 ≤ k ∧ k < 9
  · rw [if_pos hb] at hF ⊢
    have hL := iload ⟨t, k.toNat, none⟩ (s.c k.toNat) w (h.c k.toNat (by omega))
    clear hb
    go_enter Tryd.func21, Tryd.ntmps21
    go_wp2_with fail
    refine hF.mono ?_; rintro e w1 ⟨rfl, rfl⟩
    go_wp2_with fail
    refine hL.mono ?_; rintro e w2 ⟨rfl, rfl⟩
    go_wp2
    go_ret
    exact ⟨rfl, rfl⟩
  · rw [if_neg hb] at hF ⊢
    clear hb
    go_enter Tryd.func21, Tryd.ntmps21
    go_wp2_with fail
    refine hF.mono ?_; rintro e w1 ⟨rfl, rfl⟩
    go_wp2
    go_ret
    exact ⟨rfl, rfl⟩

theorem most_any (t : Nat) (s : TS) (w : World) (h : TlIn w t s) : Calls Tryd.prog 20 #[.pointer (some ⟨t, 0, none⟩)] w fun e w' => e = .returned (.int .i64 s.m) ∧ w' = w := by
  have hL := iload ⟨t, 73, none⟩ s.m w h.m
  go_enter Tryd.func20, Tryd.ntmps20
  go_wp2_with fail
  refine hL.mono ?_; rintro e w2 ⟨rfl, rfl⟩
  go_wp2
  go_ret
  exact ⟨rfl, rfl⟩

end Go.Proofs.YtlhiienmhglieaaDoor
