/-
  Contracts of math/bits' Mul64, Div64 (where the high word is nought), of a tally's Part (by what Div64 answers), Kind's Name, and of the laws' wakes. Conditions: what the tally's cells hold; that the names read as they are listed.
-/
import Derived.Test.YtlhiienmhglieaaDoorTlNote
import Derived.Test.YtlhiienmhglieaaDoorRows
import Derived.Laws.MathBits
import Derived.ProofKit
import Derived.LaidMore
import Derived.OpenShut
import Derived.Stop.Joined
namespace Go.Proofs.YtlhiienmhglieaaDoor
open Go.ChangeShapes Go.WideShapes Go.ChangeAt Go.RowKit
set_option linter.unusedVariables false

theorem wrap_lo (z : Int) : bits .and .u64 (IntKind.u64.wrap z) 4294967295 = IntKind.u64.wrap z % 4294967296 := by
  rw [IntKind.wrap_u64]
  exact and_low32 _ (by omega) (by omega)
set_option maxHeartbeats 2000000 in
theorem mul_any (x y : Nat) (hx : x < 18446744073709551616) (hy : y < 18446744073709551616) (w : World) : Calls Tryd.prog 30 #[.int .u64 (x : Int), .int .u64 (y : Int)] w fun e w' => e = .returned (.tuple #[.int .u64 ((x * y / 18446744073709551616 : Nat) : Int), .int .u64 ((x * y % 18446744073709551616 : Nat) : Int)]) ∧ w' = w := by
  have hm := mul64_arith x y (by omega) (by omega) (by omega) (by omega)
  rw [show (x : Int) * y / 18446744073709551616 = ((x * y / 18446744073709551616 : Nat) : Int) by rw [← Int.natCast_mul]; rfl] at hm
  have hl : IntKind.u64.wrap ((x : Int) * y) = ((x * y % 18446744073709551616 : Nat) : Int) := by rw [IntKind.wrap_u64, ← Int.natCast_mul]; rfl
  have HM := hid hm
  have HL := hid hl
  clear hm hl
  go_enter Tryd.func30, Tryd.ntmps30
  go_wp2
  go_ret2
  refine ⟨?_, rfl⟩
  rw [← HM.out, ← HL.out]
  simp only [and_low32 x (by omega) (by omega), and_low32 y (by omega) (by omega), wrap_lo]
  simp only [IntKind.wrap_u64]
  rfl

set_option maxHeartbeats 2000000 in
theorem div_low (lo y : Nat) (hl : lo < 18446744073709551616) (hy : y < 18446744073709551616) (h0 : 0 < y) (w : World) : Calls Tryd.prog 31 #[.int .u64 0, .int .u64 (lo : Int), .int .u64 (y : Int)] w fun e w' => e = .returned (.tuple #[.int .u64 ((lo / y : Nat) : Int), .int .u64 ((lo % y : Nat) : Int)]) ∧ Kp w w' := by
  have hne : ¬ ((y : Nat) : Int) = 0 := by omega
  have hlt : ¬ ((y : Nat) : Int) ≤ 0 := by omega
  go_enter Tryd.func31, Tryd.ntmps31
  go_wp2_with fail
  refine wp_region_kp (by kernel_rfl) (by kernel_rfl) ?_
  repeat (first
    | go_big_quiet_skip
    | (go_big_quiet_want; go_big_quiet_op; go_big_quiet_on))
  refine wpQuiet_nil ?_
  rintro w9 ⟨p, rfl⟩
  go_wp2
  go_ret2
  refine ⟨?_, kpw_kp w p⟩
  have e1 : IntKind.u64.wrap ((lo : Int) / y) = ((lo / y : Nat) : Int) := by
    rw [IntKind.wrap_u64, ← Int.natCast_ediv]
    have := Nat.div_le_self lo y
    generalize lo / y = q at *
    omega
  have e2 : (lo : Int) % y = ((lo % y : Nat) : Int) := by rw [Int.natCast_emod]
  rw [← e1, ← e2]
  rfl

def ptI (a b : Nat) : Nat := 1000 * a / (a + b)
set_option maxHeartbeats 2000000 in
theorem part_gen (t : Nat) (s : TS) (k o : Int) (w : World) (h : TlIn w t s) (hk : 0 ≤ k ∧ k < 9) (hO : 0 ≤ o ∧ o < 9) (a b r : Nat) (ea : s.c k.toNat = a) (eb : s.c o.toNat = b) (ha : a ≤ 4611686018427387904) (hb : b ≤ 4611686018427387904) (h0 : 0 < a + b)
    (hD : Calls Tryd.prog 31 #[.int .u64 ((a * 1000 / 18446744073709551616 : Nat) : Int), .int .u64 ((a * 1000 % 18446744073709551616 : Nat) : Int), .int .u64 ((a + b : Nat) : Int)] w fun e w' => e = .returned (.tuple #[.int .u64 ((ptI a b : Nat) : Int), .int .u64 (r : Int)]) ∧ Kp w w') :
    Calls Tryd.prog 15 #[.pointer (some ⟨t, 0, none⟩), .int .i64 k, .int .i64 o] w fun e w' => e = .returned (.int .i64 (ptI a b : Nat)) ∧ Kp w w' := by
  have hK1 := known_any k w
  rw [show knB k = true from decide_eq_true hk] at hK1
  have hK2 := known_any o w
  rw [show knB o = true from decide_eq_true hO] at hK2
  have hG1 := get_any t s k w h
  rw [show gt s k = a by unfold gt; rw [if_pos hk, ea]] at hG1
  have hG2 := get_any t s o w h
  rw [show gt s o = b by unfold gt; rw [if_pos hO, eb]] at hG2
  have hM := mul_any a 1000 (by omega) (by omega) w
  rw [show ((1000 : Nat) : Int) = 1000 by rfl] at hM
  have hu1 : IntKind.u64.wrap (a : Int) = a := by rw [IntKind.wrap_u64]; omega
  have hu2 : IntKind.u64.wrap (b : Int) = b := by rw [IntKind.wrap_u64]; omega
  have hu3 : IntKind.u64.wrap ((a : Int) + b) = ((a + b : Nat) : Int) := by rw [IntKind.wrap_u64]; omega
  have hp : ptI a b ≤ 1000 := Nat.div_le_of_le_mul (by rw [Nat.mul_comm (a + b)]; exact Nat.mul_le_mul_left 1000 (by omega))
  have hu4 : IntKind.i64.wrap ((ptI a b : Nat) : Int) = (ptI a b : Nat) := by rw [IntKind.wrap_i64]; omega
  have hne : ¬ ((a + b : Nat) : Int) = 0 := by omega
  clear ea eb hk hO h
  obtain ⟨q, hq⟩ : ∃ q, q = ptI a b := ⟨_, rfl⟩
  rw [← hq] at hD hu4 hp ⊢
  obtain ⟨hi, hhi⟩ : ∃ hi, hi = a * 1000 / 18446744073709551616 := ⟨_, rfl⟩
  obtain ⟨lo, hlo⟩ : ∃ lo, lo = a * 1000 % 18446744073709551616 := ⟨_, rfl⟩
  rw [← hhi, ← hlo] at hD hM
  clear hq hhi hlo
  go_enter Tryd.func15, Tryd.ntmps15
  go_wp2_with fail
  refine hK1.mono ?_; rintro e w1 ⟨rfl, rfl⟩
  go_wp2_with fail
  refine hK2.mono ?_; rintro e w2 ⟨rfl, rfl⟩
  go_wp2_with fail
  refine hG1.mono ?_; rintro e w3 ⟨rfl, rfl⟩
  go_wp2_with fail
  refine hG2.mono ?_; rintro e w4 ⟨rfl, rfl⟩
  go_wp2_with fail
  refine hM.mono ?_; rintro e w5 ⟨rfl, rfl⟩
  go_wp2_with fail
  refine hD.mono ?_; rintro e w6 ⟨rfl, k6⟩
  go_wp2
  go_ret
  exact ⟨rfl, k6⟩

/-! ### names -/
def nmL : List ByteArray := [⟨#[114, 101, 97, 100, 115]⟩, ⟨#[119, 114, 105, 116, 101, 115]⟩, ⟨#[104, 105, 116, 115]⟩, ⟨#[109, 105, 115, 115, 101, 115]⟩, ⟨#[98, 97, 116, 99, 104, 101, 115]⟩, ⟨#[115, 109, 97, 108, 108]⟩, ⟨#[103, 114, 101, 97, 116]⟩, ⟨#[102, 105, 120, 101, 100]⟩, ⟨#[97, 104, 101, 97, 100]⟩]
def nameI (k : Int) : ByteArray := if 0 ≤ k ∧ k < 9 then nmL.getD k.toNat noS else noS
def Names (w : World) : Prop := ∀ j, j < 9 → w.cell? ⟨0, j, none⟩ = some (.string (nmL.getD j noS))
theorem Names.kp {w w' : World} (h : Names w) (k : Kp w w') : Names w' := fun j hj => k.held (h j hj)
def lz : List (String × DataW Unit) := Rows.tallySumsRow.laid
theorem door_met (os : Os) (args : Array Value) : laidMetH Tryd.prog lz ((World.doorLaid Tryd.prog 400 os).forCall (fun _ _ => 0) ⟨#[], args, []⟩).memory :=
  laidMetH_of_parts3 (fuel := 8) (laidMet_of_run' 8 (by kernel_rfl) (by kernel_rfl)) (by kernel_rfl) (by kernel_rfl)
theorem of_laid {W : World} (h : laidMetH Tryd.prog lz W) : Names W := by
  rw [MakeChecks.laidMetH_plain _ _ _ (by kernel_rfl)] at h
  obtain ⟨ps, ⟨g0, t0, cs0, f0, p0, q0, hg0, ht0, hv0, hd0, _, _⟩, _, _⟩ := h
  have e0 : some g0 = some 0 := hg0.symm.trans (by kernel_rfl)
  obtain rfl := Option.some.inj e0
  have e1 : some t0 = some 76 := ht0.symm.trans (by kernel_rfl)
  obtain rfl := Option.some.inj e1
  obtain ⟨xs, m1, rfl, hx1, hlen, hn3, hel⟩ := DataW.trod_array Tryd.underlying76 hd0
  have c9 : Tryd.prog.cellsOf 9 = 1 := by kernel_rfl
  obtain ⟨hag, _⟩ := Prod.mk.inj hx1
  have hl : xs.map (·.1) = [.lit (.string [114, 101, 97, 100, 115]), .lit (.string [119, 114, 105, 116, 101, 115]), .lit (.string [104, 105, 116, 115]), .lit (.string [109, 105, 115, 115, 101, 115]), .lit (.string [98, 97, 116, 99, 104, 101, 115]), .lit (.string [115, 109, 97, 108, 108]), .lit (.string [103, 114, 101, 97, 116]), .lit (.string [102, 105, 120, 101, 100]), .lit (.string [97, 104, 101, 97, 100])] := (DataW.agg.inj hag).symm
  intro j hj
  have hj' := hel j hj
  rw [c9, Nat.mul_one, List.getElem?_eq_getElem (by omega)] at hj'
  obtain ⟨s, e2, e3, _⟩ := DataW.trod_string Tryd.underlying9 hj'
  have e4 : cs0.toList[j]? = some (.string s) := by
    have := congrArg (fun l => l[0]?) e2
    simpa using this
  have hc := World.var?_cell hg0 hv0 j
  rw [← Array.getElem?_toList, e4] at hc
  have e5 : (xs.map (·.1))[j]? = some (.lit (.string s.data.toList)) := by
    rw [List.getElem?_map, List.getElem?_eq_getElem (by omega)]
    simp [e3]
  rw [hl] at e5
  have e6 : s = nmL.getD j noS := by
    apply Go.WideShapes.bytes_inj
    have h : j = 0 ∨ j = 1 ∨ j = 2 ∨ j = 3 ∨ j = 4 ∨ j = 5 ∨ j = 6 ∨ j = 7 ∨ j = 8 := by omega
    rcases h with rfl | rfl | rfl | rfl | rfl | rfl | rfl | rfl | rfl <;> (simp at e5; rw [← e5]; rfl)
  rw [← e6]
  exact hc
set_option maxHeartbeats 1000000 in
theorem name_any (k : Int) (w : World) (h : Names w) : Calls Tryd.prog 17 #[.int .i64 k] w fun e w' => e = .returned (.string (nameI k)) ∧ w' = w := by
  have hK := known_any k w
  unfold nameI
  by_cases hb : 0 ≤ k ∧ k < 9
  · rw [if_pos hb]
    rw [show knB k = true from decide_eq_true hb] at hK
    obtain ⟨n, rfl⟩ : ∃ n : Nat, k = n := ⟨k.toNat, by omega⟩
    have hn : n < 9 := by omega
    have hc := h n hn
    rw [show ((n : Nat) : Int).toNat = n by omega]
    obtain ⟨s, hs⟩ : ∃ s, s = nmL.getD n noS := ⟨_, rfl⟩
    rw [← hs] at hc ⊢
    clear hs h hb
    go_enter Tryd.func17, Tryd.ntmps17
    go_wp2_with fail
    refine hK.mono ?_; rintro e w' ⟨rfl, rfl⟩
    go_wp2
    go_ret
    exact ⟨rfl, rfl⟩
  · rw [if_neg hb]
    rw [show knB k = false from decide_eq_false hb] at hK
    clear hb
    go_enter Tryd.func17, Tryd.ntmps17
    go_wp2_with fail
    refine hK.mono ?_; rintro e w' ⟨rfl, rfl⟩
    go_wp2
    go_ret
    exact ⟨rfl, rfl⟩

/-! ### wakes -/
def wk : TS := nt (nt (ad (ad tz 2 3) 3 1) 5) 0
theorem wk_ok : Ok (ad (ad tz 2 3) 3 1) 0 := (ok_z.ad 2 3).ad 3 1
theorem wk_en : en wk.b 64 = 4 := by decide +kernel
theorem wk_0 : wk.b 0 = 1 := by decide +kernel
theorem wk_3 : wk.b 3 = 1 := by decide +kernel
theorem wk_m : wk.m = 5 := by decide +kernel
theorem wk_2c : wk.c 2 = 3 := by decide +kernel
theorem wk_3c : wk.c 3 = 1 := by decide +kernel
set_option maxRecDepth 100000 in
set_option maxHeartbeats 4000000 in
theorem wakes_any (w : World) (hN : Names w) : Calls Tryd.prog 8 #[] w fun e w' => e = .returned (.bool true) ∧ Kp w w' := by
  go_enter Tryd.func8, Tryd.ntmps8
  go_wp2_with fail
  refine (new_any w).mono ?_; rintro e w1 ⟨rfl, h1, k1⟩
  obtain ⟨t, ht⟩ : ∃ t, t = w.heap.size := ⟨_, rfl⟩
  rw [← ht] at h1 ⊢
  have HT := hid ht
  have HN := hid hN
  clear ht hN
  go_wp2_with fail
  refine (add_any t tz 0 2 3 w1 h1 ok_z (by omega)).mono ?_; rintro e w2 ⟨rfl, h2, s2⟩
  clear h1
  go_wp2_with fail
  refine (add_any t _ 0 3 1 w2 h2 (ok_z.ad 2 3) (by omega)).mono ?_; rintro e w3 ⟨rfl, h3, s3⟩
  clear h2
  go_wp2_with fail
  refine (note_any t _ 0 5 w3 h3 wk_ok (by omega) (by omega)).mono ?_; rintro e w4 ⟨rfl, h4, s4⟩
  clear h3
  go_wp2_with fail
  refine (note_any t _ 1 0 w4 h4 (wk_ok.nt 5 (by omega)) (by omega) (by omega)).mono ?_; rintro e w5 ⟨rfl, h5, s5⟩
  clear h4
  have K5 : Kp w w5 := Sp.kp k1 (((s2.trans s3).trans s4).trans s5) (fun x hx => by rw [List.mem_singleton.1 hx, HT.out]; exact Nat.le_refl _)
  clear k1 s2 s3 s4 s5
  have h5' : TlIn w5 t wk := h5
  clear h5
  have hB := bars_any t wk w5 h5'
  rw [wk_en] at hB
  go_wp2_with fail
  refine hB.mono ?_; rintro e w6 ⟨rfl, hb, k6⟩
  have h6 := h5'.kp k6
  have K6 := K5.trans k6
  have hD := div_low 3000 4 (by omega) (by omega) (by omega) w6
  have hP := part_gen t wk 2 3 w6 h6 ⟨by omega, by omega⟩ ⟨by omega, by omega⟩ 3 1 (3000 % 4) wk_2c wk_3c (by omega) (by omega) (by omega) hD
  rw [show ((ptI 3 1 : Nat) : Int) = 750 by decide +kernel] at hP
  obtain ⟨g, hg⟩ : ∃ g, g = w5.heap.size := ⟨_, rfl⟩
  rw [← hg] at hb ⊢
  clear hB hD h5' K5 k6 hg
  have HB := hid hb
  have H6 := hid h6
  have HK6 := hid K6
  clear hb h6 K6
  go_wp2_with fail
  refine hP.mono ?_; rintro e w7 ⟨rfl, k7⟩
  have c0 := (HB.out.kp k7).c 0 (by omega)
  have c3 := (HB.out.kp k7).c 3 (by omega)
  rw [wk_0] at c0
  rw [wk_3] at c3
  have hM := most_any t wk w7 (H6.out.kp k7)
  rw [wk_m] at hM
  have hNm := name_any 8 w7 (HN.out.kp (HK6.out.trans k7))
  rw [show nameI 8 = ⟨#[97, 104, 101, 97, 100]⟩ by decide +kernel] at hNm
  have HK7 : Hid (Kp w w7) := HK6.out.trans k7
  clear hP k7 HB H6 HK6
  go_wp2_with fail
  refine hM.mono ?_; rintro e w8 ⟨rfl, rfl⟩
  go_wp2_with fail
  refine hNm.mono ?_; rintro e w9 ⟨rfl, rfl⟩
  go_wp2
  go_ret
  exact ⟨rfl, HK7⟩
end Go.Proofs.YtlhiienmhglieaaDoor
