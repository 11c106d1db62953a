/-
  Contract of the document's first. Conditions: that the object lies in memory as RX says.
-/
import Derived.Test.YteiangakgfekgaaTuRMem
namespace Go.Proofs.Yteiangakgfekgaa
open Go.RowKit Plain
set_option linter.unusedVariables false

set_option maxRecDepth 100000 in
set_option maxHeartbeats 4000000 in
theorem rfirst_00 {w0 w : World} {a : Nat} {T : List Nat} {R : RS} (h : RX w0 w a T R) (hl : R.L.length ≤ 1000) : Calls Try.prog 32 #[.pointer (some ⟨a, 0, none⟩), .bool false, .bool false] w fun e w' => ∃ z, e = .returned (.int .i64 z) ∧ Bst R.L false false z ∧ Kp w w' := by
  obtain ⟨v, _, hB⟩ := h
  obtain ⟨_, _, c2, _, _⟩ := hB.cells
  obtain ⟨p, c, rfl, q1, q2⟩ := hB.o.shape
  obtain ⟨_, g, hp, _, hc, _⟩ := hB.o.cells
  obtain ⟨l, hL⟩ : ∃ l, l = R.L := ⟨_, rfl⟩
  rw [← hL] at c2 q1 hp hc hl ⊢
  obtain ⟨n, hn⟩ : ∃ n, n = l.length := ⟨_, rfl⟩
  rw [← hn] at c2 q1 hp hc hl
  have HN := hid hn
  have HC := hid hc
  have HP := hid hp
  have H0 : Hid (Bsf l false false 0 (-1) ∧ Kp w w) := ⟨bsf_zero l false false, Kp.refl w⟩
  have HA := hid c2
  clear hB hL hn hc hp
  go_enter Try.func32, Try.ntmps32
  go_wp2
  go_loopw [7, 8] (fun b q wr => ∃ (i : Nat) (z : Int), q = .int .i64 i ∧ b = .int .i64 z ∧ i ≤ n ∧ Hid (Bsf l false false i z ∧ Kp w wr)) (fun _ q _ => n - (intOf q).toNat)
  case atStart => exact ⟨0, -1, rfl, rfl, by omega, H0⟩
  case round =>
    clear H0
    obtain ⟨i, z, rfl, rfl, hi, HI⟩ := hrel
    rename World => wr
    have c2 := HI.out.2.held HA.out
    by_cases hin : i < n
    · obtain rfl := HP.out (by omega)
      obtain ⟨_, d1, d2, d3⟩ := HC.out i hin
      have d1 := HI.out.2.held d1
      have d2 := HI.out.2.held d2
      have d3 := HI.out.2.held d3
      have hil : i < l.length := by have := HN.out; omega
      have hi3 : (i : Int) < (n : Int) := by omega
      obtain ⟨y, hy⟩ : ∃ y, y = l.getD i rk0 := ⟨_, rfl⟩
      rw [← hy] at d1 d2 d3
      have hok : okB false false (l.getD i rk0) = okB false false y := by rw [← hy]
      have HW : Hid (y.w = (l.getD i rk0).w) := by show y.w = _; rw [hy]
      obtain ⟨yn, yd, yp, yw⟩ := y
      simp only at d1 d2 d3 HW
      clear hy
      cases yd <;> cases yp
      · have HY : Hid (okB false false (l.getD i rk0) = true ∧ i < l.length) := ⟨hok, hil⟩
        clear hok hil
        by_cases hz : z < 0
        · have hz2 : decide (z < 0) = true := by simp [hz]
          have HE : Hid (Bsf l false false (i + 1) (i : Int) ∧ ∀ W, Kp wr W → Kp w W) := ⟨bsf_new HI.out.1 HY.out.2 HY.out.1 (.inl hz), fun W k => HI.out.2.trans k⟩
          clear HI HY
          go_wp2_with fail
          go_quiet (fail)
          go_wp2
          go_roundw
          case rel => exact ⟨i + 1, (i : Int), by go_num, rfl, by omega, HE.out.1, HE.out.2 _ ((Kp.refl wr).drewN _)⟩
          case measure => simp [intOf]; omega
        · have hz2 : decide (z < 0) = false := by simp; omega
          obtain ⟨b, hzb, hbi⟩ : ∃ b : Nat, z = (b : Int) ∧ b < i := by
            rcases HI.out.1 with ⟨h1, _⟩ | ⟨b, h1, h2, _⟩
            · omega
            · exact ⟨b, h1, h2⟩
          subst hzb
          obtain ⟨_, _, _, f3⟩ := HC.out b (by omega)
          have f3 := HI.out.2.held f3
          obtain ⟨bw, hbw⟩ : ∃ x, x = (l.getD b rk0).w := ⟨_, rfl⟩
          rw [← hbw] at f3
          have hb3 : (b : Int) < (n : Int) := by omega
          by_cases hlt : yw < bw
          · have hlt2 : decide (yw < bw) = true := by simp [hlt]
            have HQ : Hid ((l.getD i rk0).w < (l.getD b rk0).w) := by show _ < _; rw [← HW.out, ← hbw]; exact hlt
            clear hbw hlt hz
            have HE : Hid (Bsf l false false (i + 1) (i : Int) ∧ ∀ W, Kp wr W → Kp w W) := ⟨bsf_new HI.out.1 HY.out.2 HY.out.1 (.inr ⟨b, rfl, HQ.out⟩), fun W k => HI.out.2.trans k⟩
            clear HI HY
            go_wp2_with fail
            go_quiet (fail)
            go_wp2
            go_roundw
            case rel => exact ⟨i + 1, (i : Int), by go_num, rfl, by omega, HE.out.1, HE.out.2 _ ((Kp.refl wr).drewN _)⟩
            case measure => simp [intOf]; omega
          · have hlt2 : decide (yw < bw) = false := by simp; omega
            have HQ : Hid ((l.getD b rk0).w ≤ (l.getD i rk0).w) := by show _ ≤ _; rw [← HW.out, ← hbw]; omega
            clear hbw hlt hz
            have HE : Hid (Bsf l false false (i + 1) (b : Int) ∧ ∀ W, Kp wr W → Kp w W) := ⟨bsf_keep HI.out.1 HY.out.2 rfl HQ.out, fun W k => HI.out.2.trans k⟩
            clear HI HY
            go_wp2_with fail
            go_quiet (fail)
            go_wp2
            go_roundw
            case rel => exact ⟨i + 1, (b : Int), by go_num, rfl, by omega, HE.out.1, HE.out.2 _ ((Kp.refl wr).drewN _)⟩
            case measure => simp [intOf]; omega
      · have HY : Hid (okB false false (l.getD i rk0) = true ∧ i < l.length) := ⟨hok, hil⟩
        clear hok hil
        by_cases hz : z < 0
        · have hz2 : decide (z < 0) = true := by simp [hz]
          have HE : Hid (Bsf l false false (i + 1) (i : Int) ∧ ∀ W, Kp wr W → Kp w W) := ⟨bsf_new HI.out.1 HY.out.2 HY.out.1 (.inl hz), fun W k => HI.out.2.trans k⟩
          clear HI HY
          go_wp2_with fail
          go_quiet (fail)
          go_wp2
          go_roundw
          case rel => exact ⟨i + 1, (i : Int), by go_num, rfl, by omega, HE.out.1, HE.out.2 _ ((Kp.refl wr).drewN _)⟩
          case measure => simp [intOf]; omega
        · have hz2 : decide (z < 0) = false := by simp; omega
          obtain ⟨b, hzb, hbi⟩ : ∃ b : Nat, z = (b : Int) ∧ b < i := by
            rcases HI.out.1 with ⟨h1, _⟩ | ⟨b, h1, h2, _⟩
            · omega
            · exact ⟨b, h1, h2⟩
          subst hzb
          obtain ⟨_, _, _, f3⟩ := HC.out b (by omega)
          have f3 := HI.out.2.held f3
          obtain ⟨bw, hbw⟩ : ∃ x, x = (l.getD b rk0).w := ⟨_, rfl⟩
          rw [← hbw] at f3
          have hb3 : (b : Int) < (n : Int) := by omega
          by_cases hlt : yw < bw
          · have hlt2 : decide (yw < bw) = true := by simp [hlt]
            have HQ : Hid ((l.getD i rk0).w < (l.getD b rk0).w) := by show _ < _; rw [← HW.out, ← hbw]; exact hlt
            clear hbw hlt hz
            have HE : Hid (Bsf l false false (i + 1) (i : Int) ∧ ∀ W, Kp wr W → Kp w W) := ⟨bsf_new HI.out.1 HY.out.2 HY.out.1 (.inr ⟨b, rfl, HQ.out⟩), fun W k => HI.out.2.trans k⟩
            clear HI HY
            go_wp2_with fail
            go_quiet (fail)
            go_wp2
            go_roundw
            case rel => exact ⟨i + 1, (i : Int), by go_num, rfl, by omega, HE.out.1, HE.out.2 _ ((Kp.refl wr).drewN _)⟩
            case measure => simp [intOf]; omega
          · have hlt2 : decide (yw < bw) = false := by simp; omega
            have HQ : Hid ((l.getD b rk0).w ≤ (l.getD i rk0).w) := by show _ ≤ _; rw [← HW.out, ← hbw]; omega
            clear hbw hlt hz
            have HE : Hid (Bsf l false false (i + 1) (b : Int) ∧ ∀ W, Kp wr W → Kp w W) := ⟨bsf_keep HI.out.1 HY.out.2 rfl HQ.out, fun W k => HI.out.2.trans k⟩
            clear HI HY
            go_wp2_with fail
            go_quiet (fail)
            go_wp2
            go_roundw
            case rel => exact ⟨i + 1, (b : Int), by go_num, rfl, by omega, HE.out.1, HE.out.2 _ ((Kp.refl wr).drewN _)⟩
            case measure => simp [intOf]; omega
      · have HY : Hid (okB false false (l.getD i rk0) = false ∧ i < l.length) := ⟨hok, hil⟩
        clear hok hil
        have HE : Hid (Bsf l false false (i + 1) z ∧ ∀ W, Kp wr W → Kp w W) := ⟨bsf_skip HI.out.1 HY.out.2 HY.out.1, fun W k => HI.out.2.trans k⟩
        clear HI HY
        go_wp2
        go_roundw
        case rel => exact ⟨i + 1, z, by go_num, rfl, by omega, HE.out.1, HE.out.2 _ (Kp.refl wr)⟩
        case measure => simp [intOf]; omega
      · have HY : Hid (okB false false (l.getD i rk0) = false ∧ i < l.length) := ⟨hok, hil⟩
        clear hok hil
        have HE : Hid (Bsf l false false (i + 1) z ∧ ∀ W, Kp wr W → Kp w W) := ⟨bsf_skip HI.out.1 HY.out.2 HY.out.1, fun W k => HI.out.2.trans k⟩
        clear HI HY
        go_wp2
        go_roundw
        case rel => exact ⟨i + 1, z, by go_num, rfl, by omega, HE.out.1, HE.out.2 _ (Kp.refl wr)⟩
        case measure => simp [intOf]; omega
    · obtain rfl : i = n := by omega
      have HE : Hid (Bst l false false z ∧ Kp w wr) := ⟨bsf_all (by have := HI.out.1; rwa [HN.out] at this), HI.out.2⟩
      clear HI
      go_wp2
      go_ret
      exact ⟨z, rfl, HE.out.1, HE.out.2⟩
set_option maxRecDepth 100000 in
set_option maxHeartbeats 4000000 in
theorem rfirst_01 {w0 w : World} {a : Nat} {T : List Nat} {R : RS} (h : RX w0 w a T R) (hl : R.L.length ≤ 1000) : Calls Try.prog 32 #[.pointer (some ⟨a, 0, none⟩), .bool false, .bool true] w fun e w' => ∃ z, e = .returned (.int .i64 z) ∧ Bst R.L false true z ∧ Kp w w' := by
  obtain ⟨v, _, hB⟩ := h
  obtain ⟨_, _, c2, _, _⟩ := hB.cells
  obtain ⟨p, c, rfl, q1, q2⟩ := hB.o.shape
  obtain ⟨_, g, hp, _, hc, _⟩ := hB.o.cells
  obtain ⟨l, hL⟩ : ∃ l, l = R.L := ⟨_, rfl⟩
  rw [← hL] at c2 q1 hp hc hl ⊢
  obtain ⟨n, hn⟩ : ∃ n, n = l.length := ⟨_, rfl⟩
  rw [← hn] at c2 q1 hp hc hl
  have HN := hid hn
  have HC := hid hc
  have HP := hid hp
  have H0 : Hid (Bsf l false true 0 (-1) ∧ Kp w w) := ⟨bsf_zero l false true, Kp.refl w⟩
  have HA := hid c2
  clear hB hL hn hc hp
  go_enter Try.func32, Try.ntmps32
  go_wp2
  go_loopw [7, 8] (fun b q wr => ∃ (i : Nat) (z : Int), q = .int .i64 i ∧ b = .int .i64 z ∧ i ≤ n ∧ Hid (Bsf l false true i z ∧ Kp w wr)) (fun _ q _ => n - (intOf q).toNat)
  case atStart => exact ⟨0, -1, rfl, rfl, by omega, H0⟩
  case round =>
    clear H0
    obtain ⟨i, z, rfl, rfl, hi, HI⟩ := hrel
    rename World => wr
    have c2 := HI.out.2.held HA.out
    by_cases hin : i < n
    · obtain rfl := HP.out (by omega)
      obtain ⟨_, d1, d2, d3⟩ := HC.out i hin
      have d1 := HI.out.2.held d1
      have d2 := HI.out.2.held d2
      have d3 := HI.out.2.held d3
      have hil : i < l.length := by have := HN.out; omega
      have hi3 : (i : Int) < (n : Int) := by omega
      obtain ⟨y, hy⟩ : ∃ y, y = l.getD i rk0 := ⟨_, rfl⟩
      rw [← hy] at d1 d2 d3
      have hok : okB false true (l.getD i rk0) = okB false true y := by rw [← hy]
      have HW : Hid (y.w = (l.getD i rk0).w) := by show y.w = _; rw [hy]
      obtain ⟨yn, yd, yp, yw⟩ := y
      simp only at d1 d2 d3 HW
      clear hy
      cases yd <;> cases yp
      · have HY : Hid (okB false true (l.getD i rk0) = true ∧ i < l.length) := ⟨hok, hil⟩
        clear hok hil
        by_cases hz : z < 0
        · have hz2 : decide (z < 0) = true := by simp [hz]
          have HE : Hid (Bsf l false true (i + 1) (i : Int) ∧ ∀ W, Kp wr W → Kp w W) := ⟨bsf_new HI.out.1 HY.out.2 HY.out.1 (.inl hz), fun W k => HI.out.2.trans k⟩
          clear HI HY
          go_wp2_with fail
          go_quiet (fail)
          go_wp2
          go_roundw
          case rel => exact ⟨i + 1, (i : Int), by go_num, rfl, by omega, HE.out.1, HE.out.2 _ ((Kp.refl wr).drewN _)⟩
          case measure => simp [intOf]; omega
        · have hz2 : decide (z < 0) = false := by simp; omega
          obtain ⟨b, hzb, hbi⟩ : ∃ b : Nat, z = (b : Int) ∧ b < i := by
            rcases HI.out.1 with ⟨h1, _⟩ | ⟨b, h1, h2, _⟩
            · omega
            · exact ⟨b, h1, h2⟩
          subst hzb
          obtain ⟨_, _, _, f3⟩ := HC.out b (by omega)
          have f3 := HI.out.2.held f3
          obtain ⟨bw, hbw⟩ : ∃ x, x = (l.getD b rk0).w := ⟨_, rfl⟩
          rw [← hbw] at f3
          have hb3 : (b : Int) < (n : Int) := by omega
          by_cases hlt : yw < bw
          · have hlt2 : decide (yw < bw) = true := by simp [hlt]
            have HQ : Hid ((l.getD i rk0).w < (l.getD b rk0).w) := by show _ < _; rw [← HW.out, ← hbw]; exact hlt
            clear hbw hlt hz
            have HE : Hid (Bsf l false true (i + 1) (i : Int) ∧ ∀ W, Kp wr W → Kp w W) := ⟨bsf_new HI.out.1 HY.out.2 HY.out.1 (.inr ⟨b, rfl, HQ.out⟩), fun W k => HI.out.2.trans k⟩
            clear HI HY
            go_wp2_with fail
            go_quiet (fail)
            go_wp2
            go_roundw
            case rel => exact ⟨i + 1, (i : Int), by go_num, rfl, by omega, HE.out.1, HE.out.2 _ ((Kp.refl wr).drewN _)⟩
            case measure => simp [intOf]; omega
          · have hlt2 : decide (yw < bw) = false := by simp; omega
            have HQ : Hid ((l.getD b rk0).w ≤ (l.getD i rk0).w) := by show _ ≤ _; rw [← HW.out, ← hbw]; omega
            clear hbw hlt hz
            have HE : Hid (Bsf l false true (i + 1) (b : Int) ∧ ∀ W, Kp wr W → Kp w W) := ⟨bsf_keep HI.out.1 HY.out.2 rfl HQ.out, fun W k => HI.out.2.trans k⟩
            clear HI HY
            go_wp2_with fail
            go_quiet (fail)
            go_wp2
            go_roundw
            case rel => exact ⟨i + 1, (b : Int), by go_num, rfl, by omega, HE.out.1, HE.out.2 _ ((Kp.refl wr).drewN _)⟩
            case measure => simp [intOf]; omega
      · have HY : Hid (okB false true (l.getD i rk0) = false ∧ i < l.length) := ⟨hok, hil⟩
        clear hok hil
        have HE : Hid (Bsf l false true (i + 1) z ∧ ∀ W, Kp wr W → Kp w W) := ⟨bsf_skip HI.out.1 HY.out.2 HY.out.1, fun W k => HI.out.2.trans k⟩
        clear HI HY
        go_wp2
        go_roundw
        case rel => exact ⟨i + 1, z, by go_num, rfl, by omega, HE.out.1, HE.out.2 _ (Kp.refl wr)⟩
        case measure => simp [intOf]; omega
      · have HY : Hid (okB false true (l.getD i rk0) = false ∧ i < l.length) := ⟨hok, hil⟩
        clear hok hil
        have HE : Hid (Bsf l false true (i + 1) z ∧ ∀ W, Kp wr W → Kp w W) := ⟨bsf_skip HI.out.1 HY.out.2 HY.out.1, fun W k => HI.out.2.trans k⟩
        clear HI HY
        go_wp2
        go_roundw
        case rel => exact ⟨i + 1, z, by go_num, rfl, by omega, HE.out.1, HE.out.2 _ (Kp.refl wr)⟩
        case measure => simp [intOf]; omega
      · have HY : Hid (okB false true (l.getD i rk0) = false ∧ i < l.length) := ⟨hok, hil⟩
        clear hok hil
        have HE : Hid (Bsf l false true (i + 1) z ∧ ∀ W, Kp wr W → Kp w W) := ⟨bsf_skip HI.out.1 HY.out.2 HY.out.1, fun W k => HI.out.2.trans k⟩
        clear HI HY
        go_wp2
        go_roundw
        case rel => exact ⟨i + 1, z, by go_num, rfl, by omega, HE.out.1, HE.out.2 _ (Kp.refl wr)⟩
        case measure => simp [intOf]; omega
    · obtain rfl : i = n := by omega
      have HE : Hid (Bst l false true z ∧ Kp w wr) := ⟨bsf_all (by have := HI.out.1; rwa [HN.out] at this), HI.out.2⟩
      clear HI
      go_wp2
      go_ret
      exact ⟨z, rfl, HE.out.1, HE.out.2⟩
set_option maxRecDepth 100000 in
set_option maxHeartbeats 4000000 in
theorem rfirst_10 {w0 w : World} {a : Nat} {T : List Nat} {R : RS} (h : RX w0 w a T R) (hl : R.L.length ≤ 1000) : Calls Try.prog 32 #[.pointer (some ⟨a, 0, none⟩), .bool true, .bool false] w fun e w' => ∃ z, e = .returned (.int .i64 z) ∧ Bst R.L true false z ∧ Kp w w' := by
  obtain ⟨v, _, hB⟩ := h
  obtain ⟨_, _, c2, _, _⟩ := hB.cells
  obtain ⟨p, c, rfl, q1, q2⟩ := hB.o.shape
  obtain ⟨_, g, hp, _, hc, _⟩ := hB.o.cells
  obtain ⟨l, hL⟩ : ∃ l, l = R.L := ⟨_, rfl⟩
  rw [← hL] at c2 q1 hp hc hl ⊢
  obtain ⟨n, hn⟩ : ∃ n, n = l.length := ⟨_, rfl⟩
  rw [← hn] at c2 q1 hp hc hl
  have HN := hid hn
  have HC := hid hc
  have HP := hid hp
  have H0 : Hid (Bsf l true false 0 (-1) ∧ Kp w w) := ⟨bsf_zero l true false, Kp.refl w⟩
  have HA := hid c2
  clear hB hL hn hc hp
  go_enter Try.func32, Try.ntmps32
  go_wp2
  go_loopw [7, 8] (fun b q wr => ∃ (i : Nat) (z : Int), q = .int .i64 i ∧ b = .int .i64 z ∧ i ≤ n ∧ Hid (Bsf l true false i z ∧ Kp w wr)) (fun _ q _ => n - (intOf q).toNat)
  case atStart => exact ⟨0, -1, rfl, rfl, by omega, H0⟩
  case round =>
    clear H0
    obtain ⟨i, z, rfl, rfl, hi, HI⟩ := hrel
    rename World => wr
    have c2 := HI.out.2.held HA.out
    by_cases hin : i < n
    · obtain rfl := HP.out (by omega)
      obtain ⟨_, d1, d2, d3⟩ := HC.out i hin
      have d1 := HI.out.2.held d1
      have d2 := HI.out.2.held d2
      have d3 := HI.out.2.held d3
      have hil : i < l.length := by have := HN.out; omega
      have hi3 : (i : Int) < (n : Int) := by omega
      obtain ⟨y, hy⟩ : ∃ y, y = l.getD i rk0 := ⟨_, rfl⟩
      rw [← hy] at d1 d2 d3
      have hok : okB true false (l.getD i rk0) = okB true false y := by rw [← hy]
      have HW : Hid (y.w = (l.getD i rk0).w) := by show y.w = _; rw [hy]
      obtain ⟨yn, yd, yp, yw⟩ := y
      simp only at d1 d2 d3 HW
      clear hy
      cases yd <;> cases yp
      · have HY : Hid (okB true false (l.getD i rk0) = false ∧ i < l.length) := ⟨hok, hil⟩
        clear hok hil
        have HE : Hid (Bsf l true false (i + 1) z ∧ ∀ W, Kp wr W → Kp w W) := ⟨bsf_skip HI.out.1 HY.out.2 HY.out.1, fun W k => HI.out.2.trans k⟩
        clear HI HY
        go_wp2
        go_roundw
        case rel => exact ⟨i + 1, z, by go_num, rfl, by omega, HE.out.1, HE.out.2 _ (Kp.refl wr)⟩
        case measure => simp [intOf]; omega
      · have HY : Hid (okB true false (l.getD i rk0) = false ∧ i < l.length) := ⟨hok, hil⟩
        clear hok hil
        have HE : Hid (Bsf l true false (i + 1) z ∧ ∀ W, Kp wr W → Kp w W) := ⟨bsf_skip HI.out.1 HY.out.2 HY.out.1, fun W k => HI.out.2.trans k⟩
        clear HI HY
        go_wp2
        go_roundw
        case rel => exact ⟨i + 1, z, by go_num, rfl, by omega, HE.out.1, HE.out.2 _ (Kp.refl wr)⟩
        case measure => simp [intOf]; omega
      · have HY : Hid (okB true false (l.getD i rk0) = true ∧ i < l.length) := ⟨hok, hil⟩
        clear hok hil
        by_cases hz : z < 0
        · have hz2 : decide (z < 0) = true := by simp [hz]
          have HE : Hid (Bsf l true false (i + 1) (i : Int) ∧ ∀ W, Kp wr W → Kp w W) := ⟨bsf_new HI.out.1 HY.out.2 HY.out.1 (.inl hz), fun W k => HI.out.2.trans k⟩
          clear HI HY
          go_wp2_with fail
          go_quiet (fail)
          go_wp2
          go_roundw
          case rel => exact ⟨i + 1, (i : Int), by go_num, rfl, by omega, HE.out.1, HE.out.2 _ ((Kp.refl wr).drewN _)⟩
          case measure => simp [intOf]; omega
        · have hz2 : decide (z < 0) = false := by simp; omega
          obtain ⟨b, hzb, hbi⟩ : ∃ b : Nat, z = (b : Int) ∧ b < i := by
            rcases HI.out.1 with ⟨h1, _⟩ | ⟨b, h1, h2, _⟩
            · omega
            · exact ⟨b, h1, h2⟩
          subst hzb
          obtain ⟨_, _, _, f3⟩ := HC.out b (by omega)
          have f3 := HI.out.2.held f3
          obtain ⟨bw, hbw⟩ : ∃ x, x = (l.getD b rk0).w := ⟨_, rfl⟩
          rw [← hbw] at f3
          have hb3 : (b : Int) < (n : Int) := by omega
          by_cases hlt : yw < bw
          · have hlt2 : decide (yw < bw) = true := by simp [hlt]
            have HQ : Hid ((l.getD i rk0).w < (l.getD b rk0).w) := by show _ < _; rw [← HW.out, ← hbw]; exact hlt
            clear hbw hlt hz
            have HE : Hid (Bsf l true false (i + 1) (i : Int) ∧ ∀ W, Kp wr W → Kp w W) := ⟨bsf_new HI.out.1 HY.out.2 HY.out.1 (.inr ⟨b, rfl, HQ.out⟩), fun W k => HI.out.2.trans k⟩
            clear HI HY
            go_wp2_with fail
            go_quiet (fail)
            go_wp2
            go_roundw
            case rel => exact ⟨i + 1, (i : Int), by go_num, rfl, by omega, HE.out.1, HE.out.2 _ ((Kp.refl wr).drewN _)⟩
            case measure => simp [intOf]; omega
          · have hlt2 : decide (yw < bw) = false := by simp; omega
            have HQ : Hid ((l.getD b rk0).w ≤ (l.getD i rk0).w) := by show _ ≤ _; rw [← HW.out, ← hbw]; omega
            clear hbw hlt hz
            have HE : Hid (Bsf l true false (i + 1) (b : Int) ∧ ∀ W, Kp wr W → Kp w W) := ⟨bsf_keep HI.out.1 HY.out.2 rfl HQ.out, fun W k => HI.out.2.trans k⟩
            clear HI HY
            go_wp2_with fail
            go_quiet (fail)
            go_wp2
            go_roundw
            case rel => exact ⟨i + 1, (b : Int), by go_num, rfl, by omega, HE.out.1, HE.out.2 _ ((Kp.refl wr).drewN _)⟩
            case measure => simp [intOf]; omega
      · have HY : Hid (okB true false (l.getD i rk0) = true ∧ i < l.length) := ⟨hok, hil⟩
        clear hok hil
        by_cases hz : z < 0
        · have hz2 : decide (z < 0) = true := by simp [hz]
          have HE : Hid (Bsf l true false (i + 1) (i : Int) ∧ ∀ W, Kp wr W → Kp w W) := ⟨bsf_new HI.out.1 HY.out.2 HY.out.1 (.inl hz), fun W k => HI.out.2.trans k⟩
          clear HI HY
          go_wp2_with fail
          go_quiet (fail)
          go_wp2
          go_roundw
          case rel => exact ⟨i + 1, (i : Int), by go_num, rfl, by omega, HE.out.1, HE.out.2 _ ((Kp.refl wr).drewN _)⟩
          case measure => simp [intOf]; omega
        · have hz2 : decide (z < 0) = false := by simp; omega
          obtain ⟨b, hzb, hbi⟩ : ∃ b : Nat, z = (b : Int) ∧ b < i := by
            rcases HI.out.1 with ⟨h1, _⟩ | ⟨b, h1, h2, _⟩
            · omega
            · exact ⟨b, h1, h2⟩
          subst hzb
          obtain ⟨_, _, _, f3⟩ := HC.out b (by omega)
          have f3 := HI.out.2.held f3
          obtain ⟨bw, hbw⟩ : ∃ x, x = (l.getD b rk0).w := ⟨_, rfl⟩
          rw [← hbw] at f3
          have hb3 : (b : Int) < (n : Int) := by omega
          by_cases hlt : yw < bw
          · have hlt2 : decide (yw < bw) = true := by simp [hlt]
            have HQ : Hid ((l.getD i rk0).w < (l.getD b rk0).w) := by show _ < _; rw [← HW.out, ← hbw]; exact hlt
            clear hbw hlt hz
            have HE : Hid (Bsf l true false (i + 1) (i : Int) ∧ ∀ W, Kp wr W → Kp w W) := ⟨bsf_new HI.out.1 HY.out.2 HY.out.1 (.inr ⟨b, rfl, HQ.out⟩), fun W k => HI.out.2.trans k⟩
            clear HI HY
            go_wp2_with fail
            go_quiet (fail)
            go_wp2
            go_roundw
            case rel => exact ⟨i + 1, (i : Int), by go_num, rfl, by omega, HE.out.1, HE.out.2 _ ((Kp.refl wr).drewN _)⟩
            case measure => simp [intOf]; omega
          · have hlt2 : decide (yw < bw) = false := by simp; omega
            have HQ : Hid ((l.getD b rk0).w ≤ (l.getD i rk0).w) := by show _ ≤ _; rw [← HW.out, ← hbw]; omega
            clear hbw hlt hz
            have HE : Hid (Bsf l true false (i + 1) (b : Int) ∧ ∀ W, Kp wr W → Kp w W) := ⟨bsf_keep HI.out.1 HY.out.2 rfl HQ.out, fun W k => HI.out.2.trans k⟩
            clear HI HY
            go_wp2_with fail
            go_quiet (fail)
            go_wp2
            go_roundw
            case rel => exact ⟨i + 1, (b : Int), by go_num, rfl, by omega, HE.out.1, HE.out.2 _ ((Kp.refl wr).drewN _)⟩
            case measure => simp [intOf]; omega
    · obtain rfl : i = n := by omega
      have HE : Hid (Bst l true false z ∧ Kp w wr) := ⟨bsf_all (by have := HI.out.1; rwa [HN.out] at this), HI.out.2⟩
      clear HI
      go_wp2
      go_ret
      exact ⟨z, rfl, HE.out.1, HE.out.2⟩
set_option maxRecDepth 100000 in
set_option maxHeartbeats 4000000 in
theorem rfirst_11 {w0 w : World} {a : Nat} {T : List Nat} {R : RS} (h : RX w0 w a T R) (hl : R.L.length ≤ 1000) : Calls Try.prog 32 #[.pointer (some ⟨a, 0, none⟩), .bool true, .bool true] w fun e w' => ∃ z, e = .returned (.int .i64 z) ∧ Bst R.L true true z ∧ Kp w w' := by
  obtain ⟨v, _, hB⟩ := h
  obtain ⟨_, _, c2, _, _⟩ := hB.cells
  obtain ⟨p, c, rfl, q1, q2⟩ := hB.o.shape
  obtain ⟨_, g, hp, _, hc, _⟩ := hB.o.cells
  obtain ⟨l, hL⟩ : ∃ l, l = R.L := ⟨_, rfl⟩
  rw [← hL] at c2 q1 hp hc hl ⊢
  obtain ⟨n, hn⟩ : ∃ n, n = l.length := ⟨_, rfl⟩
  rw [← hn] at c2 q1 hp hc hl
  have HN := hid hn
  have HC := hid hc
  have HP := hid hp
  have H0 : Hid (Bsf l true true 0 (-1) ∧ Kp w w) := ⟨bsf_zero l true true, Kp.refl w⟩
  have HA := hid c2
  clear hB hL hn hc hp
  go_enter Try.func32, Try.ntmps32
  go_wp2
  go_loopw [7, 8] (fun b q wr => ∃ (i : Nat) (z : Int), q = .int .i64 i ∧ b = .int .i64 z ∧ i ≤ n ∧ Hid (Bsf l true true i z ∧ Kp w wr)) (fun _ q _ => n - (intOf q).toNat)
  case atStart => exact ⟨0, -1, rfl, rfl, by omega, H0⟩
  case round =>
    clear H0
    obtain ⟨i, z, rfl, rfl, hi, HI⟩ := hrel
    rename World => wr
    have c2 := HI.out.2.held HA.out
    by_cases hin : i < n
    · obtain rfl := HP.out (by omega)
      obtain ⟨_, d1, d2, d3⟩ := HC.out i hin
      have d1 := HI.out.2.held d1
      have d2 := HI.out.2.held d2
      have d3 := HI.out.2.held d3
      have hil : i < l.length := by have := HN.out; omega
      have hi3 : (i : Int) < (n : Int) := by omega
      obtain ⟨y, hy⟩ : ∃ y, y = l.getD i rk0 := ⟨_, rfl⟩
      rw [← hy] at d1 d2 d3
      have hok : okB true true (l.getD i rk0) = okB true true y := by rw [← hy]
      have HW : Hid (y.w = (l.getD i rk0).w) := by show y.w = _; rw [hy]
      obtain ⟨yn, yd, yp, yw⟩ := y
      simp only at d1 d2 d3 HW
      clear hy
      cases yd <;> cases yp
      · have HY : Hid (okB true true (l.getD i rk0) = false ∧ i < l.length) := ⟨hok, hil⟩
        clear hok hil
        have HE : Hid (Bsf l true true (i + 1) z ∧ ∀ W, Kp wr W → Kp w W) := ⟨bsf_skip HI.out.1 HY.out.2 HY.out.1, fun W k => HI.out.2.trans k⟩
        clear HI HY
        go_wp2
        go_roundw
        case rel => exact ⟨i + 1, z, by go_num, rfl, by omega, HE.out.1, HE.out.2 _ (Kp.refl wr)⟩
        case measure => simp [intOf]; omega
      · have HY : Hid (okB true true (l.getD i rk0) = false ∧ i < l.length) := ⟨hok, hil⟩
        clear hok hil
        have HE : Hid (Bsf l true true (i + 1) z ∧ ∀ W, Kp wr W → Kp w W) := ⟨bsf_skip HI.out.1 HY.out.2 HY.out.1, fun W k => HI.out.2.trans k⟩
        clear HI HY
        go_wp2
        go_roundw
        case rel => exact ⟨i + 1, z, by go_num, rfl, by omega, HE.out.1, HE.out.2 _ (Kp.refl wr)⟩
        case measure => simp [intOf]; omega
      · have HY : Hid (okB true true (l.getD i rk0) = true ∧ i < l.length) := ⟨hok, hil⟩
        clear hok hil
        by_cases hz : z < 0
        · have hz2 : decide (z < 0) = true := by simp [hz]
          have HE : Hid (Bsf l true true (i + 1) (i : Int) ∧ ∀ W, Kp wr W → Kp w W) := ⟨bsf_new HI.out.1 HY.out.2 HY.out.1 (.inl hz), fun W k => HI.out.2.trans k⟩
          clear HI HY
          go_wp2_with fail
          go_quiet (fail)
          go_wp2
          go_roundw
          case rel => exact ⟨i + 1, (i : Int), by go_num, rfl, by omega, HE.out.1, HE.out.2 _ ((Kp.refl wr).drewN _)⟩
          case measure => simp [intOf]; omega
        · have hz2 : decide (z < 0) = false := by simp; omega
          obtain ⟨b, hzb, hbi⟩ : ∃ b : Nat, z = (b : Int) ∧ b < i := by
            rcases HI.out.1 with ⟨h1, _⟩ | ⟨b, h1, h2, _⟩
            · omega
            · exact ⟨b, h1, h2⟩
          subst hzb
          obtain ⟨_, _, _, f3⟩ := HC.out b (by omega)
          have f3 := HI.out.2.held f3
          obtain ⟨bw, hbw⟩ : ∃ x, x = (l.getD b rk0).w := ⟨_, rfl⟩
          rw [← hbw] at f3
          have hb3 : (b : Int) < (n : Int) := by omega
          by_cases hlt : yw < bw
          · have hlt2 : decide (yw < bw) = true := by simp [hlt]
            have HQ : Hid ((l.getD i rk0).w < (l.getD b rk0).w) := by show _ < _; rw [← HW.out, ← hbw]; exact hlt
            clear hbw hlt hz
            have HE : Hid (Bsf l true true (i + 1) (i : Int) ∧ ∀ W, Kp wr W → Kp w W) := ⟨bsf_new HI.out.1 HY.out.2 HY.out.1 (.inr ⟨b, rfl, HQ.out⟩), fun W k => HI.out.2.trans k⟩
            clear HI HY
            go_wp2_with fail
            go_quiet (fail)
            go_wp2
            go_roundw
            case rel => exact ⟨i + 1, (i : Int), by go_num, rfl, by omega, HE.out.1, HE.out.2 _ ((Kp.refl wr).drewN _)⟩
            case measure => simp [intOf]; omega
          · have hlt2 : decide (yw < bw) = false := by simp; omega
            have HQ : Hid ((l.getD b rk0).w ≤ (l.getD i rk0).w) := by show _ ≤ _; rw [← HW.out, ← hbw]; omega
            clear hbw hlt hz
            have HE : Hid (Bsf l true true (i + 1) (b : Int) ∧ ∀ W, Kp wr W → Kp w W) := ⟨bsf_keep HI.out.1 HY.out.2 rfl HQ.out, fun W k => HI.out.2.trans k⟩
            clear HI HY
            go_wp2_with fail
            go_quiet (fail)
            go_wp2
            go_roundw
            case rel => exact ⟨i + 1, (b : Int), by go_num, rfl, by omega, HE.out.1, HE.out.2 _ ((Kp.refl wr).drewN _)⟩
            case measure => simp [intOf]; omega
      · have HY : Hid (okB true true (l.getD i rk0) = false ∧ i < l.length) := ⟨hok, hil⟩
        clear hok hil
        have HE : Hid (Bsf l true true (i + 1) z ∧ ∀ W, Kp wr W → Kp w W) := ⟨bsf_skip HI.out.1 HY.out.2 HY.out.1, fun W k => HI.out.2.trans k⟩
        clear HI HY
        go_wp2
        go_roundw
        case rel => exact ⟨i + 1, z, by go_num, rfl, by omega, HE.out.1, HE.out.2 _ (Kp.refl wr)⟩
        case measure => simp [intOf]; omega
    · obtain rfl : i = n := by omega
      have HE : Hid (Bst l true true z ∧ Kp w wr) := ⟨bsf_all (by have := HI.out.1; rwa [HN.out] at this), HI.out.2⟩
      clear HI
      go_wp2
      go_ret
      exact ⟨z, rfl, HE.out.1, HE.out.2⟩
theorem rfirst_any {w0 w : World} {a : Nat} {T : List Nat} {R : RS} (h : RX w0 w a T R) (hl : R.L.length ≤ 1000) (dr fr : Bool) : Calls Try.prog 32 #[.pointer (some ⟨a, 0, none⟩), .bool dr, .bool fr] w fun e w' => ∃ z, e = .returned (.int .i64 z) ∧ Bst R.L dr fr z ∧ Kp w w' := by
  cases dr <;> cases fr
  · exact rfirst_00 h hl
  · exact rfirst_01 h hl
  · exact rfirst_10 h hl
  · exact rfirst_11 h hl

end Go.Proofs.Yteiangakgfekgaa
