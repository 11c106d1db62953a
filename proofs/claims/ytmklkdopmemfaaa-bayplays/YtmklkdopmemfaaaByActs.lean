/-
  The law's act, by the remainder of Do. Conditions: both bays lie in memory, apart; few steps were asked for.
-/
import Derived.Test.YtmklkdopmemfaaaByPair
import Derived.Deep.QuietTactic
import Derived.BigQuiet
import Derived.Deep.RegionWith
import Derived.Deep.RegionHeld3
import Derived.Deep.DeepCutAuto
import Derived.Deep.CutBlock
namespace Go.Proofs.Ytmklkdopmemfaaa
open Go.RowKit Plain
set_option linter.unusedVariables false

set_option maxRecDepth 100000 in
set_option maxHeartbeats 2000000 in
theorem act_b0 {w0 W : World} {x y : Nat} {T : List Nat} {B : BS} (K : Kp w0 W) (h : Both Bw Dw w0 W x y T B B) (hg : B.g < 999999) (op i_ at_ : Int) (d : Nat) (odd : Bool) (a0 : Option Addr) (n0 cap0 : Nat) (KK : List (Value × List Nat)) (hd8 : d < 256) (wA : (Lit.int .i64 at_).wf = true) (hk : KL w0 (.slice a0 n0 cap0) KK) (ho : bits .and .i64 op 7 = 0) : Calls Try.prog 11 #[.pointer (some ⟨x, 0, none⟩), .pointer (some ⟨y, 0, none⟩), .agg #[.int .i64 op, .int .i64 i_, .int .i64 at_, .int .u8 (d : Int), .bool odd, .slice a0 n0 cap0]] W fun e w' => e = .returned (.bool true) ∧ ∃ B', B'.g ≤ B.g + 1 ∧ Bd w0 W x y T B' B' w' := by
  obtain ⟨W1, hW1⟩ : ∃ W1, W1 = W.alloc (.cells #[.int .i64 op, .int .i64 i_, .int .i64 at_, .int .u8 (d : Int), .bool odd, .slice a0 n0 cap0] 31) := ⟨_, rfl⟩
  obtain ⟨b, hb⟩ : ∃ b, b = W.heap.size := ⟨_, rfl⟩
  have k01 : Kp W W1 := by rw [hW1]; exact (Kp.refl W).alloc _
  have K1 : Kp w0 W1 := K.trans k01
  have r0 : W1.cell? ⟨b, 0, none⟩ = some (.int .i64 op) := by rw [hW1, World.cell?_alloc_at _ _ _ _ hb]; rfl
  have r1 : W1.cell? ⟨b, 1, none⟩ = some (.int .i64 i_) := by rw [hW1, World.cell?_alloc_at _ _ _ _ hb]; rfl
  have r2 : W1.cell? ⟨b, 2, none⟩ = some (.int .i64 at_) := by rw [hW1, World.cell?_alloc_at _ _ _ _ hb]; rfl
  have r3 : W1.cell? ⟨b, 3, none⟩ = some (.int .u8 (d : Int)) := by rw [hW1, World.cell?_alloc_at _ _ _ _ hb]; rfl
  have r4 : W1.cell? ⟨b, 4, none⟩ = some (.bool odd) := by rw [hW1, World.cell?_alloc_at _ _ _ _ hb]; rfl
  have r5 : W1.cell? ⟨b, 5, none⟩ = some (.slice a0 n0 cap0) := by rw [hW1, World.cell?_alloc_at _ _ _ _ hb]; rfl
  have hBT : b ∉ T := fun hm => by have := h.low OL.bw OL.dw b hm; omega
  have hbl : b < W1.heap.size := World.block_lt_of_cell? _ _ r0
  have hT := h.new OL.bw OL.dw
  have p1 : Bd w0 W1 x y T B B W1 := Bx.refl (h.kp OL.bw OL.dw k01)
  have HP := hid p1
  have HW := hid hW1
  have HB := hid hb
  have HK1 := hid K1
  have HT := hid hT
  have HKL := hid hk
  have H01 := hid k01
  have HBT := hid hBT
  have HBl := hid hbl
  have HG := hid hg
  have R0 := hid r0
  have R1 := hid r1
  have R2 := hid r2
  have R3 := hid r3
  have R4 := hid r4
  have R5 := hid r5
  have HGd := hid p1.gd
  clear hW1 hb k01 K1 r0 r1 r2 r3 r4 r5 hBT hT p1 hk h K hg hbl
  obtain ⟨sX, esX⟩ : ∃ sX, sX = scS d odd := ⟨_, rfl⟩
  have EsX := hid esX
  clear esX
  have HSX : Hid (∀ V, Calls Try.prog 17 #[.int .u8 (d : Int), .bool odd] V fun e V' => e = .returned (.string sX) ∧ Kp V V') := by rw [EsX.out]; exact sector_any d hd8 odd
  obtain ⟨E, eE⟩ : ∃ E, E = opE B i_ (fun S => wrE S at_ sX) := ⟨_, rfl⟩
  have EE := hid eE
  clear eE
  obtain ⟨N, eN⟩ : ∃ N, N = opS B i_ (fun S => wr S at_ sX) := ⟨_, rfl⟩
  have EN := hid eN
  clear eN
  have cM : ∀ V, Bd w0 W1 x y T B B V → Calls Try.prog 16 #[.pointer (some ⟨x, 0, none⟩), .int .i64 i_, .int .i64 at_, .string sX] V fun e V' => e = .returned (.int .i64 E) ∧ Bd w0 W1 x y T N B V' := fun V k => by
    have := Bd.c1 HK1.out HT.out k (fun P o K => bw_write o K i_ at_ sX (by have := HG.out; omega))
    rw [← EN.out, ← EE.out] at this
    exact this
  have cD : ∀ V, Bd w0 W1 x y T N B V → Calls Try.prog 38 #[.pointer (some ⟨y, 0, none⟩), .int .i64 i_, .int .i64 at_, .string sX] V fun e V' => e = .returned (.int .i64 E) ∧ Bd w0 W1 x y T N N V' := fun V k => by
    have := Bd.c2 HK1.out HT.out k (fun P o K => dw_write o K i_ at_ sX (by have := HG.out; omega))
    rw [← EN.out, ← EE.out] at this
    exact this
  have hS0 : ∀ V, Bd w0 W1 x y T B B V → V.cell? ⟨b, 1, none⟩ = some (.int .i64 i_) ∧ V.cell? ⟨b, 2, none⟩ = some (.int .i64 at_) ∧ V.cell? ⟨b, 3, none⟩ = some (.int .u8 (d : Int)) ∧ V.cell? ⟨b, 4, none⟩ = some (.bool odd) := fun V k => ⟨k.held R1.out HBT.out, k.held R2.out HBT.out, k.held R3.out HBT.out, k.held R4.out HBT.out⟩
  have c150 : ∀ V, Bd w0 W1 x y T B B V → Calls Try.prog 17 #[.int .u8 (d : Int), .bool odd] V fun e V' => e = .returned (.string sX) ∧ Bd w0 W1 x y T B B V' := fun V k => (HSX.out V).mono fun e V' ⟨he, k'⟩ => ⟨he, Bd.kp k k'⟩
  have hS1 : ∀ V, Bd w0 W1 x y T N B V → V.cell? ⟨b, 1, none⟩ = some (.int .i64 i_) ∧ V.cell? ⟨b, 2, none⟩ = some (.int .i64 at_) ∧ V.cell? ⟨b, 3, none⟩ = some (.int .u8 (d : Int)) ∧ V.cell? ⟨b, 4, none⟩ = some (.bool odd) := fun V k => ⟨k.held R1.out HBT.out, k.held R2.out HBT.out, k.held R3.out HBT.out, k.held R4.out HBT.out⟩
  have c151 : ∀ V, Bd w0 W1 x y T N B V → Calls Try.prog 17 #[.int .u8 (d : Int), .bool odd] V fun e V' => e = .returned (.string sX) ∧ Bd w0 W1 x y T N B V' := fun V k => (HSX.out V).mono fun e V' ⟨he, k'⟩ => ⟨he, Bd.kp k k'⟩
  have hS2 : ∀ V, Bd w0 W1 x y T N N V → V.cell? ⟨b, 1, none⟩ = some (.int .i64 i_) ∧ V.cell? ⟨b, 2, none⟩ = some (.int .i64 at_) ∧ V.cell? ⟨b, 3, none⟩ = some (.int .u8 (d : Int)) ∧ V.cell? ⟨b, 4, none⟩ = some (.bool odd) := fun V k => ⟨k.held R1.out HBT.out, k.held R2.out HBT.out, k.held R3.out HBT.out, k.held R4.out HBT.out⟩
  have c152 : ∀ V, Bd w0 W1 x y T N N V → Calls Try.prog 17 #[.int .u8 (d : Int), .bool odd] V fun e V' => e = .returned (.string sX) ∧ Bd w0 W1 x y T N N V' := fun V k => (HSX.out V).mono fun e V' ⟨he, k'⟩ => ⟨he, Bd.kp k k'⟩
  go_enter Try.func11, Try.ntmps11
  go_wp2_with fail
  rw [← HW.out, ← HB.out]
  clear HW HB
  have p1 := Bd.kp HP.out (Kp.refl _).drew
  go_region_held3 (fun V => V.cell? ⟨b, 1, none⟩ = some (.int .i64 i_) ∧ V.cell? ⟨b, 2, none⟩ = some (.int .i64 at_) ∧ V.cell? ⟨b, 3, none⟩ = some (.int .u8 (d : Int)) ∧ V.cell? ⟨b, 4, none⟩ = some (.bool odd)) (first | exact hS0 _ (by assumption) | exact hS1 _ (by assumption) | exact hS2 _ (by assumption)) (first
    | (go_at_call 17; refine (c150 _ (by assumption)).mono ?_; rintro e wa ⟨rfl, pa⟩)
    | (go_at_call 17; refine (c151 _ (by assumption)).mono ?_; rintro e wb ⟨rfl, pb⟩)
    | (go_at_call 16; refine (cM _ (by assumption)).mono ?_; rintro e wc ⟨rfl, pc⟩)
    | (go_at_call 38; refine (cD _ (by assumption)).mono ?_; rintro e wd ⟨rfl, pd⟩))
  all_goals (
    have HPD := hid pd
    clear c150 c151 c152 cM cD hS0 hS1 hS2 p1 pa pb pc pd
    go_wp2
    go_ret
    refine ⟨rfl, N, ?_, Bx.from H01.out HPD.out⟩
    rw [EN.out, (opS_len _ _ _).2]
    exact Nat.le_refl _)
set_option maxRecDepth 100000 in
set_option maxHeartbeats 2000000 in
theorem act_b1 {w0 W : World} {x y : Nat} {T : List Nat} {B : BS} (K : Kp w0 W) (h : Both Bw Dw w0 W x y T B B) (hg : B.g < 999999) (op i_ at_ : Int) (d : Nat) (odd : Bool) (a0 : Option Addr) (n0 cap0 : Nat) (KK : List (Value × List Nat)) (hd8 : d < 256) (wA : (Lit.int .i64 at_).wf = true) (hk : KL w0 (.slice a0 n0 cap0) KK) (ho : bits .and .i64 op 7 = 1) : Calls Try.prog 11 #[.pointer (some ⟨x, 0, none⟩), .pointer (some ⟨y, 0, none⟩), .agg #[.int .i64 op, .int .i64 i_, .int .i64 at_, .int .u8 (d : Int), .bool odd, .slice a0 n0 cap0]] W fun e w' => e = .returned (.bool true) ∧ ∃ B', B'.g ≤ B.g + 1 ∧ Bd w0 W x y T B' B' w' := by
  obtain ⟨W1, hW1⟩ : ∃ W1, W1 = W.alloc (.cells #[.int .i64 op, .int .i64 i_, .int .i64 at_, .int .u8 (d : Int), .bool odd, .slice a0 n0 cap0] 31) := ⟨_, rfl⟩
  obtain ⟨b, hb⟩ : ∃ b, b = W.heap.size := ⟨_, rfl⟩
  have k01 : Kp W W1 := by rw [hW1]; exact (Kp.refl W).alloc _
  have K1 : Kp w0 W1 := K.trans k01
  have r0 : W1.cell? ⟨b, 0, none⟩ = some (.int .i64 op) := by rw [hW1, World.cell?_alloc_at _ _ _ _ hb]; rfl
  have r1 : W1.cell? ⟨b, 1, none⟩ = some (.int .i64 i_) := by rw [hW1, World.cell?_alloc_at _ _ _ _ hb]; rfl
  have r2 : W1.cell? ⟨b, 2, none⟩ = some (.int .i64 at_) := by rw [hW1, World.cell?_alloc_at _ _ _ _ hb]; rfl
  have r3 : W1.cell? ⟨b, 3, none⟩ = some (.int .u8 (d : Int)) := by rw [hW1, World.cell?_alloc_at _ _ _ _ hb]; rfl
  have r4 : W1.cell? ⟨b, 4, none⟩ = some (.bool odd) := by rw [hW1, World.cell?_alloc_at _ _ _ _ hb]; rfl
  have r5 : W1.cell? ⟨b, 5, none⟩ = some (.slice a0 n0 cap0) := by rw [hW1, World.cell?_alloc_at _ _ _ _ hb]; rfl
  have hBT : b ∉ T := fun hm => by have := h.low OL.bw OL.dw b hm; omega
  have hbl : b < W1.heap.size := World.block_lt_of_cell? _ _ r0
  have hT := h.new OL.bw OL.dw
  have p1 : Bd w0 W1 x y T B B W1 := Bx.refl (h.kp OL.bw OL.dw k01)
  have HP := hid p1
  have HW := hid hW1
  have HB := hid hb
  have HK1 := hid K1
  have HT := hid hT
  have HKL := hid hk
  have H01 := hid k01
  have HBT := hid hBT
  have HBl := hid hbl
  have HG := hid hg
  have R0 := hid r0
  have R1 := hid r1
  have R2 := hid r2
  have R3 := hid r3
  have R4 := hid r4
  have R5 := hid r5
  have HGd := hid p1.gd
  clear hW1 hb k01 K1 r0 r1 r2 r3 r4 r5 hBT hT p1 hk h K hg hbl
  obtain ⟨sX, esX⟩ : ∃ sX, sX = scS d odd := ⟨_, rfl⟩
  have EsX := hid esX
  clear esX
  have HSX : Hid (∀ V, Calls Try.prog 17 #[.int .u8 (d : Int), .bool odd] V fun e V' => e = .returned (.string sX) ∧ Kp V V') := by rw [EsX.out]; exact sector_any d hd8 odd
  obtain ⟨E, eE⟩ : ∃ E, E = opE B i_ (fun S => wrE S at_ sX) := ⟨_, rfl⟩
  have EE := hid eE
  clear eE
  obtain ⟨N, eN⟩ : ∃ N, N = opS B i_ (fun S => wr S at_ sX) := ⟨_, rfl⟩
  have EN := hid eN
  clear eN
  have cM : ∀ V, Bd w0 W1 x y T B B V → Calls Try.prog 16 #[.pointer (some ⟨x, 0, none⟩), .int .i64 i_, .int .i64 at_, .string sX] V fun e V' => e = .returned (.int .i64 E) ∧ Bd w0 W1 x y T N B V' := fun V k => by
    have := Bd.c1 HK1.out HT.out k (fun P o K => bw_write o K i_ at_ sX (by have := HG.out; omega))
    rw [← EN.out, ← EE.out] at this
    exact this
  have cD : ∀ V, Bd w0 W1 x y T N B V → Calls Try.prog 38 #[.pointer (some ⟨y, 0, none⟩), .int .i64 i_, .int .i64 at_, .string sX] V fun e V' => e = .returned (.int .i64 E) ∧ Bd w0 W1 x y T N N V' := fun V k => by
    have := Bd.c2 HK1.out HT.out k (fun P o K => dw_write o K i_ at_ sX (by have := HG.out; omega))
    rw [← EN.out, ← EE.out] at this
    exact this
  have hS0 : ∀ V, Bd w0 W1 x y T B B V → V.cell? ⟨b, 1, none⟩ = some (.int .i64 i_) ∧ V.cell? ⟨b, 2, none⟩ = some (.int .i64 at_) ∧ V.cell? ⟨b, 3, none⟩ = some (.int .u8 (d : Int)) ∧ V.cell? ⟨b, 4, none⟩ = some (.bool odd) := fun V k => ⟨k.held R1.out HBT.out, k.held R2.out HBT.out, k.held R3.out HBT.out, k.held R4.out HBT.out⟩
  have c150 : ∀ V, Bd w0 W1 x y T B B V → Calls Try.prog 17 #[.int .u8 (d : Int), .bool odd] V fun e V' => e = .returned (.string sX) ∧ Bd w0 W1 x y T B B V' := fun V k => (HSX.out V).mono fun e V' ⟨he, k'⟩ => ⟨he, Bd.kp k k'⟩
  have hS1 : ∀ V, Bd w0 W1 x y T N B V → V.cell? ⟨b, 1, none⟩ = some (.int .i64 i_) ∧ V.cell? ⟨b, 2, none⟩ = some (.int .i64 at_) ∧ V.cell? ⟨b, 3, none⟩ = some (.int .u8 (d : Int)) ∧ V.cell? ⟨b, 4, none⟩ = some (.bool odd) := fun V k => ⟨k.held R1.out HBT.out, k.held R2.out HBT.out, k.held R3.out HBT.out, k.held R4.out HBT.out⟩
  have c151 : ∀ V, Bd w0 W1 x y T N B V → Calls Try.prog 17 #[.int .u8 (d : Int), .bool odd] V fun e V' => e = .returned (.string sX) ∧ Bd w0 W1 x y T N B V' := fun V k => (HSX.out V).mono fun e V' ⟨he, k'⟩ => ⟨he, Bd.kp k k'⟩
  have hS2 : ∀ V, Bd w0 W1 x y T N N V → V.cell? ⟨b, 1, none⟩ = some (.int .i64 i_) ∧ V.cell? ⟨b, 2, none⟩ = some (.int .i64 at_) ∧ V.cell? ⟨b, 3, none⟩ = some (.int .u8 (d : Int)) ∧ V.cell? ⟨b, 4, none⟩ = some (.bool odd) := fun V k => ⟨k.held R1.out HBT.out, k.held R2.out HBT.out, k.held R3.out HBT.out, k.held R4.out HBT.out⟩
  have c152 : ∀ V, Bd w0 W1 x y T N N V → Calls Try.prog 17 #[.int .u8 (d : Int), .bool odd] V fun e V' => e = .returned (.string sX) ∧ Bd w0 W1 x y T N N V' := fun V k => (HSX.out V).mono fun e V' ⟨he, k'⟩ => ⟨he, Bd.kp k k'⟩
  go_enter Try.func11, Try.ntmps11
  go_wp2_with fail
  rw [← HW.out, ← HB.out]
  clear HW HB
  have p1 := Bd.kp HP.out (Kp.refl _).drew
  go_region_held3 (fun V => V.cell? ⟨b, 1, none⟩ = some (.int .i64 i_) ∧ V.cell? ⟨b, 2, none⟩ = some (.int .i64 at_) ∧ V.cell? ⟨b, 3, none⟩ = some (.int .u8 (d : Int)) ∧ V.cell? ⟨b, 4, none⟩ = some (.bool odd)) (first | exact hS0 _ (by assumption) | exact hS1 _ (by assumption) | exact hS2 _ (by assumption)) (first
    | (go_at_call 17; refine (c150 _ (by assumption)).mono ?_; rintro e wa ⟨rfl, pa⟩)
    | (go_at_call 17; refine (c151 _ (by assumption)).mono ?_; rintro e wb ⟨rfl, pb⟩)
    | (go_at_call 16; refine (cM _ (by assumption)).mono ?_; rintro e wc ⟨rfl, pc⟩)
    | (go_at_call 38; refine (cD _ (by assumption)).mono ?_; rintro e wd ⟨rfl, pd⟩))
  all_goals (
    have HPD := hid pd
    clear c150 c151 c152 cM cD hS0 hS1 hS2 p1 pa pb pc pd
    go_wp2
    go_ret
    refine ⟨rfl, N, ?_, Bx.from H01.out HPD.out⟩
    rw [EN.out, (opS_len _ _ _).2]
    exact Nat.le_refl _)
set_option maxRecDepth 100000 in
set_option maxHeartbeats 2000000 in
theorem act_b2 {w0 W : World} {x y : Nat} {T : List Nat} {B : BS} (K : Kp w0 W) (h : Both Bw Dw w0 W x y T B B) (hg : B.g < 999999) (op i_ at_ : Int) (d : Nat) (odd : Bool) (a0 : Option Addr) (n0 cap0 : Nat) (KK : List (Value × List Nat)) (hd8 : d < 256) (wA : (Lit.int .i64 at_).wf = true) (hk : KL w0 (.slice a0 n0 cap0) KK) (ho : bits .and .i64 op 7 = 2) : Calls Try.prog 11 #[.pointer (some ⟨x, 0, none⟩), .pointer (some ⟨y, 0, none⟩), .agg #[.int .i64 op, .int .i64 i_, .int .i64 at_, .int .u8 (d : Int), .bool odd, .slice a0 n0 cap0]] W fun e w' => e = .returned (.bool true) ∧ ∃ B', B'.g ≤ B.g + 1 ∧ Bd w0 W x y T B' B' w' := by
  obtain ⟨W1, hW1⟩ : ∃ W1, W1 = W.alloc (.cells #[.int .i64 op, .int .i64 i_, .int .i64 at_, .int .u8 (d : Int), .bool odd, .slice a0 n0 cap0] 31) := ⟨_, rfl⟩
  obtain ⟨b, hb⟩ : ∃ b, b = W.heap.size := ⟨_, rfl⟩
  have k01 : Kp W W1 := by rw [hW1]; exact (Kp.refl W).alloc _
  have K1 : Kp w0 W1 := K.trans k01
  have r0 : W1.cell? ⟨b, 0, none⟩ = some (.int .i64 op) := by rw [hW1, World.cell?_alloc_at _ _ _ _ hb]; rfl
  have r1 : W1.cell? ⟨b, 1, none⟩ = some (.int .i64 i_) := by rw [hW1, World.cell?_alloc_at _ _ _ _ hb]; rfl
  have r2 : W1.cell? ⟨b, 2, none⟩ = some (.int .i64 at_) := by rw [hW1, World.cell?_alloc_at _ _ _ _ hb]; rfl
  have r3 : W1.cell? ⟨b, 3, none⟩ = some (.int .u8 (d : Int)) := by rw [hW1, World.cell?_alloc_at _ _ _ _ hb]; rfl
  have r4 : W1.cell? ⟨b, 4, none⟩ = some (.bool odd) := by rw [hW1, World.cell?_alloc_at _ _ _ _ hb]; rfl
  have r5 : W1.cell? ⟨b, 5, none⟩ = some (.slice a0 n0 cap0) := by rw [hW1, World.cell?_alloc_at _ _ _ _ hb]; rfl
  have hBT : b ∉ T := fun hm => by have := h.low OL.bw OL.dw b hm; omega
  have hbl : b < W1.heap.size := World.block_lt_of_cell? _ _ r0
  have hT := h.new OL.bw OL.dw
  have p1 : Bd w0 W1 x y T B B W1 := Bx.refl (h.kp OL.bw OL.dw k01)
  have HP := hid p1
  have HW := hid hW1
  have HB := hid hb
  have HK1 := hid K1
  have HT := hid hT
  have HKL := hid hk
  have H01 := hid k01
  have HBT := hid hBT
  have HBl := hid hbl
  have HG := hid hg
  have R0 := hid r0
  have R1 := hid r1
  have R2 := hid r2
  have R3 := hid r3
  have R4 := hid r4
  have R5 := hid r5
  have HGd := hid p1.gd
  clear hW1 hb k01 K1 r0 r1 r2 r3 r4 r5 hBT hT p1 hk h K hg hbl
  obtain ⟨E, eE⟩ : ∃ E, E = rdE B i_ at_ := ⟨_, rfl⟩
  have EE := hid eE
  clear eE
  obtain ⟨sR, esR⟩ : ∃ sR, sR = rdT B i_ at_ := ⟨_, rfl⟩
  have EsR := hid esR
  clear esR
  obtain ⟨N, eN⟩ : ∃ N, N = rdB B i_ at_ := ⟨_, rfl⟩
  have EN := hid eN
  clear eN
  have cM : ∀ V, Bd w0 W1 x y T B B V → Calls Try.prog 19 #[.pointer (some ⟨x, 0, none⟩), .int .i64 i_, .int .i64 at_] V fun e V' => e = .returned (.tuple #[.string sR, .int .i64 E]) ∧ Bd w0 W1 x y T N B V' := fun V k => by
    have := Bd.c1 HK1.out HT.out k (fun P o K => bw_read o K i_ at_)
    rw [← EN.out, ← EE.out, ← EsR.out] at this
    exact this
  have cD : ∀ V, Bd w0 W1 x y T N B V → Calls Try.prog 29 #[.pointer (some ⟨y, 0, none⟩), .int .i64 i_, .int .i64 at_] V fun e V' => e = .returned (.tuple #[.string sR, .int .i64 E]) ∧ Bd w0 W1 x y T N N V' := fun V k => by
    have := Bd.c2 HK1.out HT.out k (fun P o K => dw_read o K i_ at_)
    rw [← EN.out, ← EE.out, ← EsR.out] at this
    exact this
  have r1 := R1.out
  have r2 := R2.out
  have r0 := R0.out
  have r3 := R3.out
  have r4 := R4.out
  go_enter Try.func11, Try.ntmps11
  go_wp2_with fail
  rw [← HW.out, ← HB.out]
  clear HW HB
  refine (cM _ HP.out).mono ?_
  rintro e V1 ⟨rfl, p1⟩
  have s1 := p1.held r1 HBT.out
  have s2 := p1.held r2 HBT.out
  have HP1 := hid p1
  clear p1 r1 r2 r0 r3 r4
  go_wp2_with fail
  refine (cD _ HP1.out).mono ?_
  rintro e V2 ⟨rfl, p2⟩
  have HP2 := hid p2
  clear p2
  go_wp2
  go_ret
  refine ⟨rfl, N, ?_, Bx.from H01.out HP2.out⟩
  rw [EN.out]
  unfold rdB
  split
  · exact Nat.le_succ _
  · exact Nat.le_succ _
set_option maxRecDepth 100000 in
set_option maxHeartbeats 2000000 in
theorem act_b3 {w0 W : World} {x y : Nat} {T : List Nat} {B : BS} (K : Kp w0 W) (h : Both Bw Dw w0 W x y T B B) (hg : B.g < 999999) (op i_ at_ : Int) (d : Nat) (odd : Bool) (a0 : Option Addr) (n0 cap0 : Nat) (KK : List (Value × List Nat)) (hd8 : d < 256) (wA : (Lit.int .i64 at_).wf = true) (hk : KL w0 (.slice a0 n0 cap0) KK) (ho : bits .and .i64 op 7 = 3) : Calls Try.prog 11 #[.pointer (some ⟨x, 0, none⟩), .pointer (some ⟨y, 0, none⟩), .agg #[.int .i64 op, .int .i64 i_, .int .i64 at_, .int .u8 (d : Int), .bool odd, .slice a0 n0 cap0]] W fun e w' => e = .returned (.bool true) ∧ ∃ B', B'.g ≤ B.g + 1 ∧ Bd w0 W x y T B' B' w' := by
  obtain ⟨W1, hW1⟩ : ∃ W1, W1 = W.alloc (.cells #[.int .i64 op, .int .i64 i_, .int .i64 at_, .int .u8 (d : Int), .bool odd, .slice a0 n0 cap0] 31) := ⟨_, rfl⟩
  obtain ⟨b, hb⟩ : ∃ b, b = W.heap.size := ⟨_, rfl⟩
  have k01 : Kp W W1 := by rw [hW1]; exact (Kp.refl W).alloc _
  have K1 : Kp w0 W1 := K.trans k01
  have r0 : W1.cell? ⟨b, 0, none⟩ = some (.int .i64 op) := by rw [hW1, World.cell?_alloc_at _ _ _ _ hb]; rfl
  have r1 : W1.cell? ⟨b, 1, none⟩ = some (.int .i64 i_) := by rw [hW1, World.cell?_alloc_at _ _ _ _ hb]; rfl
  have r2 : W1.cell? ⟨b, 2, none⟩ = some (.int .i64 at_) := by rw [hW1, World.cell?_alloc_at _ _ _ _ hb]; rfl
  have r3 : W1.cell? ⟨b, 3, none⟩ = some (.int .u8 (d : Int)) := by rw [hW1, World.cell?_alloc_at _ _ _ _ hb]; rfl
  have r4 : W1.cell? ⟨b, 4, none⟩ = some (.bool odd) := by rw [hW1, World.cell?_alloc_at _ _ _ _ hb]; rfl
  have r5 : W1.cell? ⟨b, 5, none⟩ = some (.slice a0 n0 cap0) := by rw [hW1, World.cell?_alloc_at _ _ _ _ hb]; rfl
  have hBT : b ∉ T := fun hm => by have := h.low OL.bw OL.dw b hm; omega
  have hbl : b < W1.heap.size := World.block_lt_of_cell? _ _ r0
  have hT := h.new OL.bw OL.dw
  have p1 : Bd w0 W1 x y T B B W1 := Bx.refl (h.kp OL.bw OL.dw k01)
  have HP := hid p1
  have HW := hid hW1
  have HB := hid hb
  have HK1 := hid K1
  have HT := hid hT
  have HKL := hid hk
  have H01 := hid k01
  have HBT := hid hBT
  have HBl := hid hbl
  have HG := hid hg
  have R0 := hid r0
  have R1 := hid r1
  have R2 := hid r2
  have R3 := hid r3
  have R4 := hid r4
  have R5 := hid r5
  have HGd := hid p1.gd
  clear hW1 hb k01 K1 r0 r1 r2 r3 r4 r5 hBT hT p1 hk h K hg hbl
  obtain ⟨E, eE⟩ : ∃ E, E = opE B i_ flE := ⟨_, rfl⟩
  have EE := hid eE
  clear eE
  obtain ⟨N, eN⟩ : ∃ N, N = opS B i_ fl := ⟨_, rfl⟩
  have EN := hid eN
  clear eN
  have cM : ∀ V, Bd w0 W1 x y T B B V → Calls Try.prog 18 #[.pointer (some ⟨x, 0, none⟩), .int .i64 i_] V fun e V' => e = .returned (.int .i64 E) ∧ Bd w0 W1 x y T N B V' := fun V k => by
    have := Bd.c1 HK1.out HT.out k (fun P o K => bw_flush o K i_ (by have := HG.out; omega))
    rw [← EN.out, ← EE.out] at this
    exact this
  have cD : ∀ V, Bd w0 W1 x y T N B V → Calls Try.prog 30 #[.pointer (some ⟨y, 0, none⟩), .int .i64 i_] V fun e V' => e = .returned (.int .i64 E) ∧ Bd w0 W1 x y T N N V' := fun V k => by
    have := Bd.c2 HK1.out HT.out k (fun P o K => dw_flush o K i_ (by have := HG.out; omega))
    rw [← EN.out, ← EE.out] at this
    exact this
  have hS0 : ∀ V, Bd w0 W1 x y T B B V → V.cell? ⟨b, 1, none⟩ = some (.int .i64 i_) := fun V k => k.held R1.out HBT.out
  have hS1 : ∀ V, Bd w0 W1 x y T N B V → V.cell? ⟨b, 1, none⟩ = some (.int .i64 i_) := fun V k => k.held R1.out HBT.out
  have hS2 : ∀ V, Bd w0 W1 x y T N N V → V.cell? ⟨b, 1, none⟩ = some (.int .i64 i_) := fun V k => k.held R1.out HBT.out
  go_enter Try.func11, Try.ntmps11
  go_wp2_with fail
  rw [← HW.out, ← HB.out]
  clear HW HB
  have p1 := Bd.kp HP.out (Kp.refl _).drew
  go_region_held3 (fun V => V.cell? ⟨b, 1, none⟩ = some (.int .i64 i_)) (first | exact hS0 _ (by assumption) | exact hS1 _ (by assumption) | exact hS2 _ (by assumption)) (first
    | (go_at_call 18; refine (cM _ (by assumption)).mono ?_; rintro e wc ⟨rfl, pc⟩)
    | (go_at_call 30; refine (cD _ (by assumption)).mono ?_; rintro e wd ⟨rfl, pd⟩))
  all_goals (
    have HPD := hid pd
    clear cM cD hS0 hS1 hS2 p1 pc pd
    go_wp2
    go_ret
    refine ⟨rfl, N, ?_, Bx.from H01.out HPD.out⟩
    rw [EN.out, (opS_len _ _ _).2]
    exact Nat.le_refl _)
set_option maxRecDepth 100000 in
set_option maxHeartbeats 2000000 in
theorem act_b4 {w0 W : World} {x y : Nat} {T : List Nat} {B : BS} (K : Kp w0 W) (h : Both Bw Dw w0 W x y T B B) (hg : B.g < 999999) (op i_ at_ : Int) (d : Nat) (odd : Bool) (a0 : Option Addr) (n0 cap0 : Nat) (KK : List (Value × List Nat)) (hd8 : d < 256) (wA : (Lit.int .i64 at_).wf = true) (hk : KL w0 (.slice a0 n0 cap0) KK) (ho : bits .and .i64 op 7 = 4) : Calls Try.prog 11 #[.pointer (some ⟨x, 0, none⟩), .pointer (some ⟨y, 0, none⟩), .agg #[.int .i64 op, .int .i64 i_, .int .i64 at_, .int .u8 (d : Int), .bool odd, .slice a0 n0 cap0]] W fun e w' => e = .returned (.bool true) ∧ ∃ B', B'.g ≤ B.g + 1 ∧ Bd w0 W x y T B' B' w' := by
  obtain ⟨W1, hW1⟩ : ∃ W1, W1 = W.alloc (.cells #[.int .i64 op, .int .i64 i_, .int .i64 at_, .int .u8 (d : Int), .bool odd, .slice a0 n0 cap0] 31) := ⟨_, rfl⟩
  obtain ⟨b, hb⟩ : ∃ b, b = W.heap.size := ⟨_, rfl⟩
  have k01 : Kp W W1 := by rw [hW1]; exact (Kp.refl W).alloc _
  have K1 : Kp w0 W1 := K.trans k01
  have r0 : W1.cell? ⟨b, 0, none⟩ = some (.int .i64 op) := by rw [hW1, World.cell?_alloc_at _ _ _ _ hb]; rfl
  have r1 : W1.cell? ⟨b, 1, none⟩ = some (.int .i64 i_) := by rw [hW1, World.cell?_alloc_at _ _ _ _ hb]; rfl
  have r2 : W1.cell? ⟨b, 2, none⟩ = some (.int .i64 at_) := by rw [hW1, World.cell?_alloc_at _ _ _ _ hb]; rfl
  have r3 : W1.cell? ⟨b, 3, none⟩ = some (.int .u8 (d : Int)) := by rw [hW1, World.cell?_alloc_at _ _ _ _ hb]; rfl
  have r4 : W1.cell? ⟨b, 4, none⟩ = some (.bool odd) := by rw [hW1, World.cell?_alloc_at _ _ _ _ hb]; rfl
  have r5 : W1.cell? ⟨b, 5, none⟩ = some (.slice a0 n0 cap0) := by rw [hW1, World.cell?_alloc_at _ _ _ _ hb]; rfl
  have hBT : b ∉ T := fun hm => by have := h.low OL.bw OL.dw b hm; omega
  have hbl : b < W1.heap.size := World.block_lt_of_cell? _ _ r0
  have hT := h.new OL.bw OL.dw
  have p1 : Bd w0 W1 x y T B B W1 := Bx.refl (h.kp OL.bw OL.dw k01)
  have HP := hid p1
  have HW := hid hW1
  have HB := hid hb
  have HK1 := hid K1
  have HT := hid hT
  have HKL := hid hk
  have H01 := hid k01
  have HBT := hid hBT
  have HBl := hid hbl
  have HG := hid hg
  have R0 := hid r0
  have R1 := hid r1
  have R2 := hid r2
  have R3 := hid r3
  have R4 := hid r4
  have R5 := hid r5
  have HGd := hid p1.gd
  clear hW1 hb k01 K1 r0 r1 r2 r3 r4 r5 hBT hT p1 hk h K hg hbl
  obtain ⟨N, eN⟩ : ∃ N, N = ctB B at_ := ⟨_, rfl⟩
  have EN := hid eN
  clear eN
  have cM : ∀ V, Bd w0 W1 x y T B B V → Calls Try.prog 15 #[.pointer (some ⟨x, 0, none⟩), .int .i64 at_] V fun e V' => e = .returned (.tuple #[]) ∧ Bd w0 W1 x y T N B V' := fun V k => by
    have := Bd.c1 HK1.out HT.out k (fun P o K => bw_cut o at_ wA)
    rw [← EN.out] at this
    exact this
  have cD : ∀ V, Bd w0 W1 x y T N B V → Calls Try.prog 31 #[.pointer (some ⟨y, 0, none⟩), .int .i64 at_] V fun e V' => e = .returned (.tuple #[]) ∧ Bd w0 W1 x y T N N V' := fun V k => by
    have := Bd.c2 HK1.out HT.out k (fun P o K => dw_cut o at_ wA)
    rw [← EN.out] at this
    exact this
  have r2 := R2.out
  have r0 := R0.out
  go_enter Try.func11, Try.ntmps11
  go_wp2_with fail
  rw [← HW.out, ← HB.out]
  clear HW HB
  refine (cM _ HP.out).mono ?_
  rintro e V1 ⟨rfl, p1⟩
  have s2 := p1.held r2 HBT.out
  have HP1 := hid p1
  clear p1 r2 r0
  go_wp2_with fail
  refine (cD _ HP1.out).mono ?_
  rintro e V2 ⟨rfl, p2⟩
  have HP2 := hid p2
  clear p2
  go_wp2
  go_ret
  refine ⟨rfl, N, ?_, Bx.from H01.out HP2.out⟩
  rw [EN.out]
  exact Nat.le_succ _
set_option maxRecDepth 100000 in
set_option maxHeartbeats 2000000 in
theorem act_b5 {w0 W : World} {x y : Nat} {T : List Nat} {B : BS} (K : Kp w0 W) (h : Both Bw Dw w0 W x y T B B) (hg : B.g < 999999) (op i_ at_ : Int) (d : Nat) (odd : Bool) (a0 : Option Addr) (n0 cap0 : Nat) (KK : List (Value × List Nat)) (hd8 : d < 256) (wA : (Lit.int .i64 at_).wf = true) (hk : KL w0 (.slice a0 n0 cap0) KK) (ho : bits .and .i64 op 7 = 5) : Calls Try.prog 11 #[.pointer (some ⟨x, 0, none⟩), .pointer (some ⟨y, 0, none⟩), .agg #[.int .i64 op, .int .i64 i_, .int .i64 at_, .int .u8 (d : Int), .bool odd, .slice a0 n0 cap0]] W fun e w' => e = .returned (.bool true) ∧ ∃ B', B'.g ≤ B.g + 1 ∧ Bd w0 W x y T B' B' w' := by
  obtain ⟨W1, hW1⟩ : ∃ W1, W1 = W.alloc (.cells #[.int .i64 op, .int .i64 i_, .int .i64 at_, .int .u8 (d : Int), .bool odd, .slice a0 n0 cap0] 31) := ⟨_, rfl⟩
  obtain ⟨b, hb⟩ : ∃ b, b = W.heap.size := ⟨_, rfl⟩
  have k01 : Kp W W1 := by rw [hW1]; exact (Kp.refl W).alloc _
  have K1 : Kp w0 W1 := K.trans k01
  have r0 : W1.cell? ⟨b, 0, none⟩ = some (.int .i64 op) := by rw [hW1, World.cell?_alloc_at _ _ _ _ hb]; rfl
  have r1 : W1.cell? ⟨b, 1, none⟩ = some (.int .i64 i_) := by rw [hW1, World.cell?_alloc_at _ _ _ _ hb]; rfl
  have r2 : W1.cell? ⟨b, 2, none⟩ = some (.int .i64 at_) := by rw [hW1, World.cell?_alloc_at _ _ _ _ hb]; rfl
  have r3 : W1.cell? ⟨b, 3, none⟩ = some (.int .u8 (d : Int)) := by rw [hW1, World.cell?_alloc_at _ _ _ _ hb]; rfl
  have r4 : W1.cell? ⟨b, 4, none⟩ = some (.bool odd) := by rw [hW1, World.cell?_alloc_at _ _ _ _ hb]; rfl
  have r5 : W1.cell? ⟨b, 5, none⟩ = some (.slice a0 n0 cap0) := by rw [hW1, World.cell?_alloc_at _ _ _ _ hb]; rfl
  have hBT : b ∉ T := fun hm => by have := h.low OL.bw OL.dw b hm; omega
  have hbl : b < W1.heap.size := World.block_lt_of_cell? _ _ r0
  have hT := h.new OL.bw OL.dw
  have p1 : Bd w0 W1 x y T B B W1 := Bx.refl (h.kp OL.bw OL.dw k01)
  have HP := hid p1
  have HW := hid hW1
  have HB := hid hb
  have HK1 := hid K1
  have HT := hid hT
  have HKL := hid hk
  have H01 := hid k01
  have HBT := hid hBT
  have HBl := hid hbl
  have HG := hid hg
  have R0 := hid r0
  have R1 := hid r1
  have R2 := hid r2
  have R3 := hid r3
  have R4 := hid r4
  have R5 := hid r5
  have HGd := hid p1.gd
  clear hW1 hb k01 K1 r0 r1 r2 r3 r4 r5 hBT hT p1 hk h K hg hbl
  obtain ⟨N, eN⟩ : ∃ N, N = crB B (ksF KK) := ⟨_, rfl⟩
  have EN := hid eN
  clear eN
  have hls : ∀ V, Kp w0 V → Calls Try.prog 32 #[.agg #[.int .i64 op, .int .i64 i_, .int .i64 at_, .int .u8 (d : Int), .bool odd, .slice a0 n0 cap0]] V fun e w' => ∃ v, e = .returned v ∧ OR w' V.heap.size 110 v (cvs (KK.take 32)) ∧ Kp V w' := fun V k => lists_any ⟨op, i_, at_, d, odd, .slice a0 n0 cap0, KK⟩ V (HKL.out.kp k)
  have r0 := R0.out
  have r1 := R1.out
  have r2 := R2.out
  have r3 := R3.out
  have r4 := R4.out
  have r5 := R5.out
  go_enter Try.func11, Try.ntmps11
  go_wp2_with fail
  rw [← HW.out, ← HB.out]
  clear HW HB
  refine (hls _ HK1.out).mono ?_
  rintro e V1 ⟨v1, rfl, o1, k1⟩
  have hc1 := Bd.crash1 HK1.out HT.out HP.out k1 HKL.out.k o1 (by have := HG.out; omega)
  rw [← EN.out] at hc1
  clear o1 k1
  go_wp2_with fail
  refine hc1.mono ?_
  rintro e V2 ⟨rfl, p2⟩
  have s0 := p2.held r0 HBT.out
  have s1 := p2.held r1 HBT.out
  have s2 := p2.held r2 HBT.out
  have s3 := p2.held r3 HBT.out
  have s4 := p2.held r4 HBT.out
  have s5 := p2.held r5 HBT.out
  have hl2 := hls V2 (p2.below HK1.out HT.out)
  have HP2 := hid p2
  clear p2 r0 r1 r2 r3 r4 r5 hc1 hls
  go_wp2_with fail
  refine hl2.mono ?_
  rintro e V3 ⟨v3, rfl, o3, k3⟩
  have hc3 := Bd.crash2 HK1.out HT.out HP2.out k3 HKL.out.k o3 (by have := HG.out; omega)
  rw [← EN.out] at hc3
  clear o3 k3 hl2 s0 s1 s2 s3 s4 s5
  go_wp2_with fail
  refine hc3.mono ?_
  rintro e V4 ⟨rfl, p4⟩
  have HP4 := hid p4
  clear p4 hc3
  go_wp2
  go_ret
  refine ⟨rfl, N, ?_, Bx.from H01.out HP4.out⟩
  rw [EN.out]
  exact Nat.le_succ _
set_option maxRecDepth 100000 in
set_option maxHeartbeats 2000000 in
theorem act_b6 {w0 W : World} {x y : Nat} {T : List Nat} {B : BS} (K : Kp w0 W) (h : Both Bw Dw w0 W x y T B B) (hg : B.g < 999999) (op i_ at_ : Int) (d : Nat) (odd : Bool) (a0 : Option Addr) (n0 cap0 : Nat) (KK : List (Value × List Nat)) (hd8 : d < 256) (wA : (Lit.int .i64 at_).wf = true) (hk : KL w0 (.slice a0 n0 cap0) KK) (ho : bits .and .i64 op 7 = 6) : Calls Try.prog 11 #[.pointer (some ⟨x, 0, none⟩), .pointer (some ⟨y, 0, none⟩), .agg #[.int .i64 op, .int .i64 i_, .int .i64 at_, .int .u8 (d : Int), .bool odd, .slice a0 n0 cap0]] W fun e w' => e = .returned (.bool true) ∧ ∃ B', B'.g ≤ B.g + 1 ∧ Bd w0 W x y T B' B' w' := by
  obtain ⟨W1, hW1⟩ : ∃ W1, W1 = W.alloc (.cells #[.int .i64 op, .int .i64 i_, .int .i64 at_, .int .u8 (d : Int), .bool odd, .slice a0 n0 cap0] 31) := ⟨_, rfl⟩
  obtain ⟨b, hb⟩ : ∃ b, b = W.heap.size := ⟨_, rfl⟩
  have k01 : Kp W W1 := by rw [hW1]; exact (Kp.refl W).alloc _
  have K1 : Kp w0 W1 := K.trans k01
  have r0 : W1.cell? ⟨b, 0, none⟩ = some (.int .i64 op) := by rw [hW1, World.cell?_alloc_at _ _ _ _ hb]; rfl
  have r1 : W1.cell? ⟨b, 1, none⟩ = some (.int .i64 i_) := by rw [hW1, World.cell?_alloc_at _ _ _ _ hb]; rfl
  have r2 : W1.cell? ⟨b, 2, none⟩ = some (.int .i64 at_) := by rw [hW1, World.cell?_alloc_at _ _ _ _ hb]; rfl
  have r3 : W1.cell? ⟨b, 3, none⟩ = some (.int .u8 (d : Int)) := by rw [hW1, World.cell?_alloc_at _ _ _ _ hb]; rfl
  have r4 : W1.cell? ⟨b, 4, none⟩ = some (.bool odd) := by rw [hW1, World.cell?_alloc_at _ _ _ _ hb]; rfl
  have r5 : W1.cell? ⟨b, 5, none⟩ = some (.slice a0 n0 cap0) := by rw [hW1, World.cell?_alloc_at _ _ _ _ hb]; rfl
  have hBT : b ∉ T := fun hm => by have := h.low OL.bw OL.dw b hm; omega
  have hbl : b < W1.heap.size := World.block_lt_of_cell? _ _ r0
  have hT := h.new OL.bw OL.dw
  have p1 : Bd w0 W1 x y T B B W1 := Bx.refl (h.kp OL.bw OL.dw k01)
  have HP := hid p1
  have HW := hid hW1
  have HB := hid hb
  have HK1 := hid K1
  have HT := hid hT
  have HKL := hid hk
  have H01 := hid k01
  have HBT := hid hBT
  have HBl := hid hbl
  have HG := hid hg
  have R0 := hid r0
  have R1 := hid r1
  have R2 := hid r2
  have R3 := hid r3
  have R4 := hid r4
  have R5 := hid r5
  have HGd := hid p1.gd
  clear hW1 hb k01 K1 r0 r1 r2 r3 r4 r5 hBT hT p1 hk h K hg hbl
  have K0 : Hid (Kp W1 W1.drew) := (Kp.refl W1).drew
  cases odd with
  | false =>
    have cm : ∀ V', Kp W1 V' → True := fun _ _ => trivial
    go_enter Try.func11, Try.ntmps11
    go_wp2_with fail
    rw [← HW.out, ← HB.out]
    clear HW HB
    have q1 : ∀ p, (prw (Kp W1) W1.drew p).cell? ⟨b, 1, none⟩ = some (.int .i64 i_) := fun p => (prw_ok K0.out p).held R1.out
    have q4 : ∀ p, (prw (Kp W1) W1.drew p).cell? ⟨b, 4, none⟩ = some (.bool false) := fun p => (prw_ok K0.out p).held R4.out
    refine wp_region_pr (Kp W1) K0.out (by kernel_rfl) (by kernel_rfl) ?_
    repeat (first
      | go_big_quiet_skip
      | (go_big_quiet_want; go_big_quiet_op; go_big_quiet_on)
      | (go_big_quiet_want; go_big_quiet_op; apply Exists.intro; refine ⟨fun p => ?_, ?_⟩; (focus
          (go_at_call 12; fail)); go_big_quiet_on))
    refine wpQuiet_nil ?_
    rintro V1 ⟨p, hp⟩
    have KV : Hid (Kp W1 V1) := by
      show Kp W1 V1
      rw [hp]; exact prw_ok K0.out p
    clear hp
    clear q1 q4 cm
    go_wp2
    go_ret
    exact ⟨rfl, B, Nat.le_succ _, Bx.from H01.out (Bd.kp HP.out KV.out)⟩
  | true =>
    by_cases hf : fdE B i_ = 0
    · have hf0 := hf
      obtain ⟨b1, b2, b3, _⟩ := bm_mem hf
      obtain ⟨j, hj⟩ : ∃ j : Nat, i_ = (j : Int) := ⟨i_.toNat, by omega⟩
      obtain ⟨n, hn⟩ : ∃ n, n = B.ms.length := ⟨_, rfl⟩
      have HNN := hid hn
      have hjn : j < n := by omega
      have hn32 : n ≤ 32 := by rw [hn]; exact HGd.out.n2
      obtain ⟨z, P, mz, oz, nz⟩ := Bd.own1 HP.out hf
      obtain ⟨m, cap, m0, m1, m2, _, _⟩ := HP.out.list2
      rw [← hn] at m0 m1
      have M0 := hid m0
      have HF := hid hf
      have HOZ := hid oz
      have HNZ := hid nz
      have hi0 : 0 ≤ i_ := b1
      have hin : i_ < (n : Int) := by omega
      have HJ := hid hj
      have cm : ∀ V', Kp W1 V' → Calls Try.prog 12 #[.pointer (some ⟨x, 0, none⟩), .int .i64 i_] V' fun e w' => e = .returned (.pointer (some ⟨z, 0, none⟩)) ∧ Kp W1 w' := fun V' k => (mz V' k).mono fun e w' ⟨he, hw⟩ => ⟨he, by rw [hw]; exact k⟩
      have HMZ := hid mz
      clear hn hf hf0 b1 b2 b3 hj oz nz mz m0
      go_enter Try.func11, Try.ntmps11
      go_wp2_with fail
      rw [← HW.out, ← HB.out]
      clear HW HB
      have q1 : ∀ p, (prw (Kp W1) W1.drew p).cell? ⟨b, 1, none⟩ = some (.int .i64 i_) := fun p => (prw_ok K0.out p).held R1.out
      have q4 : ∀ p, (prw (Kp W1) W1.drew p).cell? ⟨b, 4, none⟩ = some (.bool true) := fun p => (prw_ok K0.out p).held R4.out
      have q0 : ∀ p, (prw (Kp W1) W1.drew p).cell? ⟨y, 0, none⟩ = some (.slice (some ⟨m, 0, none⟩) n cap) := fun p => (prw_ok K0.out p).held M0.out
      refine wp_region_pr (Kp W1) K0.out (by kernel_rfl) (by kernel_rfl) ?_
      repeat (first
        | go_big_quiet_skip
        | (go_big_quiet_want; go_big_quiet_op; go_big_quiet_on)
        | (go_big_quiet_want; go_big_quiet_op; apply Exists.intro; refine ⟨fun p => ?_, ?_⟩; (focus
            (go_at_call 12; exact pr_call (cm _ (prw_ok K0.out p)))); go_big_quiet_on))
      refine wpQuiet_nil ?_
      rintro V1 ⟨p, hp⟩
      have KV : Hid (Kp W1 V1) := by
        show Kp W1 V1
        rw [hp]; exact prw_ok K0.out p
      clear hp
      have hf0 : 0 ≤ i_ := hi0
      clear q1 q0 q4 cm
      have r1 := KV.out.held R1.out
      have hmz := HMZ.out V1 KV.out
      have oz1 := HOZ.out.kp KV.out
      have hfz := ow_fail oz1 (HK1.out.trans KV.out)
      go_wp2_with fail
      refine hmz.mono ?_
      rintro e V2 ⟨rfl, rfl⟩
      go_wp2_with fail
      refine hfz.mono ?_
      rintro e V3 ⟨rfl, n3⟩
      have n3' : Nx w0 W1 V3 z P (fa (bm B i_)) := Nz.from (O := Ow) KV.out n3
      have p3 := HNZ.out V3 _ n3' Right.fa (Nat.zero_le _)
      have r1b := p3.held R1.out HBT.out
      obtain ⟨m', cap', z2, P2, d0, d1, d2, d3, d4, d5, d6⟩ := Bd.own2 p3 (i := j) (by rw [← HNN.out]; exact hjn)
      rw [← HNN.out] at d0 d1
      have HP3 := hid p3
      have D5 := hid d5
      have D0 := hid d0
      have D3 := hid d3
      have hbP : Hid (b ∉ P2) := fun hm => by
        rcases (d6 b hm).2.2 with h5 | h5
        · exact HBT.out h5
        · have := HBl.out; omega
      have hyP : Hid (y ∉ P2) := fun hm => (d6 y hm).1 rfl
      have hmP : Hid (m' ∉ P2) := fun hm => (d6 m' hm).2.1 rfl
      have RB := hid r1b
      have ebm : B.ms.getD j noM = bm B i_ := by unfold bm; rw [HJ.out, Int.toNat_natCast]
      rw [ebm] at d4
      have D4 := hid d4
      have K3 := hid (p3.below HK1.out HT.out)
      have c18 : ∀ V', Kp V3 V' → Calls Try.prog 35 #[.pointer (some ⟨z2, 0, none⟩)] V' fun e w'' => e = .returned (.tuple #[]) ∧ Nz Rw w0 V3 w'' z2 P2 (fa (bm B i_)) := fun V' k => (rw_fail (OL.rw.sp D4.out (k.sp []) (fun _ _ h => by cases h)) (K3.out.trans k)).mono fun e w'' ⟨he, hz⟩ => ⟨he, Nz.from k hz⟩
      have hS1 : ∀ V', Kp V3 V' → V'.cell? ⟨y, 0, none⟩ = some (.slice (some ⟨m', 0, none⟩) n cap') ∧ V'.cell? ⟨b, 1, none⟩ = some (.int .i64 i_) ∧ V'.cell? ⟨m', j, none⟩ = some (.pointer (some ⟨z2, 0, none⟩)) := fun V' k => ⟨k.held D0.out, k.held RB.out, k.held D3.out⟩
      have hS2 : ∀ V', Nz Rw w0 V3 V' z2 P2 (fa (bm B i_)) → V'.cell? ⟨y, 0, none⟩ = some (.slice (some ⟨m', 0, none⟩) n cap') ∧ V'.cell? ⟨b, 1, none⟩ = some (.int .i64 i_) ∧ V'.cell? ⟨m', j, none⟩ = some (.pointer (some ⟨z2, 0, none⟩)) := fun V' ⟨_, _, q2, _⟩ => ⟨q2.held D0.out hyP.out, q2.held RB.out hbP.out, q2.held D3.out hmP.out⟩
      have kr : Kp V3 V3.drew := (Kp.refl V3).drew
      have hj2 : (i_ : Int).toNat = j := by rw [HJ.out]; rfl
      have hjj : i_ = (j : Int) := HJ.out
      clear d0 d3 d4 d5 d6 n3 n3' p3 r1 r1b hmz oz1 hfz ebm
      subst hjj
      go_wp2_with fail
      go_region_held3 (fun V' => V'.cell? ⟨y, 0, none⟩ = some (.slice (some ⟨m', 0, none⟩) n cap') ∧ V'.cell? ⟨b, 1, none⟩ = some (.int .i64 (j : Int)) ∧ V'.cell? ⟨m', j, none⟩ = some (.pointer (some ⟨z2, 0, none⟩))) (first | exact hS1 _ (by assumption) | exact hS2 _ (by assumption)) (first
        | (go_at_call 35; refine (c18 _ (by assumption)).mono ?_; rintro e V4 ⟨rfl, n4⟩))
      all_goals (
        have p4 := D5.out V4 _ n4 Right.fa (Nat.zero_le _)
        have HP4 := hid p4
        clear p4 n4 c18 hS1 hS2 kr
        go_wp2
        go_ret
        exact ⟨rfl, put B (j : Int) (fa (bm B (j : Int))), Nat.le_succ _, Bx.from H01.out HP4.out⟩)
    · have cm0 := Bd.none1 HP.out hf
      have cm : ∀ V', Kp W1 V' → Calls Try.prog 12 #[.pointer (some ⟨x, 0, none⟩), .int .i64 i_] V' fun e w' => e = .returned (.pointer none) ∧ Kp W1 w' := fun V' k => (cm0 V' k).mono fun e w' ⟨he, hw⟩ => ⟨he, by rw [hw]; exact k⟩
      clear cm0
      go_enter Try.func11, Try.ntmps11
      go_wp2_with fail
      rw [← HW.out, ← HB.out]
      clear HW HB
      have q1 : ∀ p, (prw (Kp W1) W1.drew p).cell? ⟨b, 1, none⟩ = some (.int .i64 i_) := fun p => (prw_ok K0.out p).held R1.out
      have q4 : ∀ p, (prw (Kp W1) W1.drew p).cell? ⟨b, 4, none⟩ = some (.bool true) := fun p => (prw_ok K0.out p).held R4.out
      refine wp_region_pr (Kp W1) K0.out (by kernel_rfl) (by kernel_rfl) ?_
      repeat (first
        | go_big_quiet_skip
        | (go_big_quiet_want; go_big_quiet_op; go_big_quiet_on)
        | (go_big_quiet_want; go_big_quiet_op; apply Exists.intro; refine ⟨fun p => ?_, ?_⟩; (focus
            (go_at_call 12; exact pr_call (cm _ (prw_ok K0.out p)))); go_big_quiet_on))
      refine wpQuiet_nil ?_
      rintro V1 ⟨p, hp⟩
      have KV : Hid (Kp W1 V1) := by
        show Kp W1 V1
        rw [hp]; exact prw_ok K0.out p
      clear hp
      clear q1 q4 cm
      go_wp2
      go_ret
      exact ⟨rfl, B, Nat.le_succ _, Bx.from H01.out (Bd.kp HP.out KV.out)⟩
set_option maxRecDepth 100000 in
set_option maxHeartbeats 2000000 in
theorem act_b7 {w0 W : World} {x y : Nat} {T : List Nat} {B : BS} (K : Kp w0 W) (h : Both Bw Dw w0 W x y T B B) (hg : B.g < 999999) (op i_ at_ : Int) (d : Nat) (odd : Bool) (a0 : Option Addr) (n0 cap0 : Nat) (KK : List (Value × List Nat)) (hd8 : d < 256) (wA : (Lit.int .i64 at_).wf = true) (hk : KL w0 (.slice a0 n0 cap0) KK) (ho : bits .and .i64 op 7 = 7) : Calls Try.prog 11 #[.pointer (some ⟨x, 0, none⟩), .pointer (some ⟨y, 0, none⟩), .agg #[.int .i64 op, .int .i64 i_, .int .i64 at_, .int .u8 (d : Int), .bool odd, .slice a0 n0 cap0]] W fun e w' => e = .returned (.bool true) ∧ ∃ B', B'.g ≤ B.g + 1 ∧ Bd w0 W x y T B' B' w' := by
  obtain ⟨W1, hW1⟩ : ∃ W1, W1 = W.alloc (.cells #[.int .i64 op, .int .i64 i_, .int .i64 at_, .int .u8 (d : Int), .bool odd, .slice a0 n0 cap0] 31) := ⟨_, rfl⟩
  obtain ⟨b, hb⟩ : ∃ b, b = W.heap.size := ⟨_, rfl⟩
  have k01 : Kp W W1 := by rw [hW1]; exact (Kp.refl W).alloc _
  have K1 : Kp w0 W1 := K.trans k01
  have r0 : W1.cell? ⟨b, 0, none⟩ = some (.int .i64 op) := by rw [hW1, World.cell?_alloc_at _ _ _ _ hb]; rfl
  have r1 : W1.cell? ⟨b, 1, none⟩ = some (.int .i64 i_) := by rw [hW1, World.cell?_alloc_at _ _ _ _ hb]; rfl
  have r2 : W1.cell? ⟨b, 2, none⟩ = some (.int .i64 at_) := by rw [hW1, World.cell?_alloc_at _ _ _ _ hb]; rfl
  have r3 : W1.cell? ⟨b, 3, none⟩ = some (.int .u8 (d : Int)) := by rw [hW1, World.cell?_alloc_at _ _ _ _ hb]; rfl
  have r4 : W1.cell? ⟨b, 4, none⟩ = some (.bool odd) := by rw [hW1, World.cell?_alloc_at _ _ _ _ hb]; rfl
  have r5 : W1.cell? ⟨b, 5, none⟩ = some (.slice a0 n0 cap0) := by rw [hW1, World.cell?_alloc_at _ _ _ _ hb]; rfl
  have hBT : b ∉ T := fun hm => by have := h.low OL.bw OL.dw b hm; omega
  have hbl : b < W1.heap.size := World.block_lt_of_cell? _ _ r0
  have hT := h.new OL.bw OL.dw
  have p1 : Bd w0 W1 x y T B B W1 := Bx.refl (h.kp OL.bw OL.dw k01)
  have HP := hid p1
  have HW := hid hW1
  have HB := hid hb
  have HK1 := hid K1
  have HT := hid hT
  have HKL := hid hk
  have H01 := hid k01
  have HBT := hid hBT
  have HBl := hid hbl
  have HG := hid hg
  have R0 := hid r0
  have R1 := hid r1
  have R2 := hid r2
  have R3 := hid r3
  have R4 := hid r4
  have R5 := hid r5
  have HGd := hid p1.gd
  clear hW1 hb k01 K1 r0 r1 r2 r3 r4 r5 hBT hT p1 hk h K hg hbl
  have K0 : Hid (Kp W1 W1.drew) := (Kp.refl W1).drew
  by_cases hf : fdE B i_ = 0
  · have hf0 := hf
    obtain ⟨b1, b2, b3, _⟩ := bm_mem hf
    obtain ⟨j, hj⟩ : ∃ j : Nat, i_ = (j : Int) := ⟨i_.toNat, by omega⟩
    obtain ⟨n, hn⟩ : ∃ n, n = B.ms.length := ⟨_, rfl⟩
    have HNN := hid hn
    have hjn : j < n := by omega
    have hn32 : n ≤ 32 := by rw [hn]; exact HGd.out.n2
    obtain ⟨z, P, mz, oz, nz⟩ := Bd.own1 HP.out hf
    obtain ⟨m, cap, m0, m1, m2, _, _⟩ := HP.out.list2
    rw [← hn] at m0 m1
    have M0 := hid m0
    have HF := hid hf
    have HOZ := hid oz
    have HNZ := hid nz
    have hi0 : 0 ≤ i_ := b1
    have hin : i_ < (n : Int) := by omega
    have HJ := hid hj
    have cm : ∀ V', Kp W1 V' → Calls Try.prog 12 #[.pointer (some ⟨x, 0, none⟩), .int .i64 i_] V' fun e w' => e = .returned (.pointer (some ⟨z, 0, none⟩)) ∧ Kp W1 w' := fun V' k => (mz V' k).mono fun e w' ⟨he, hw⟩ => ⟨he, by rw [hw]; exact k⟩
    have HMZ := hid mz
    clear hn hf hf0 b1 b2 b3 hj oz nz mz m0
    go_enter Try.func11, Try.ntmps11
    go_wp2_with fail
    rw [← HW.out, ← HB.out]
    clear HW HB
    have q1 : ∀ p, (prw (Kp W1) W1.drew p).cell? ⟨b, 1, none⟩ = some (.int .i64 i_) := fun p => (prw_ok K0.out p).held R1.out
    have q0 : ∀ p, (prw (Kp W1) W1.drew p).cell? ⟨y, 0, none⟩ = some (.slice (some ⟨m, 0, none⟩) n cap) := fun p => (prw_ok K0.out p).held M0.out
    refine wp_region_pr (Kp W1) K0.out (by kernel_rfl) (by kernel_rfl) ?_
    repeat (first
      | go_big_quiet_skip
      | (go_big_quiet_want; go_big_quiet_op; go_big_quiet_on)
      | (go_big_quiet_want; go_big_quiet_op; apply Exists.intro; refine ⟨fun p => ?_, ?_⟩; (focus
          (go_at_call 12; exact pr_call (cm _ (prw_ok K0.out p)))); go_big_quiet_on))
    refine wpQuiet_nil ?_
    rintro V1 ⟨p, hp⟩
    have KV : Hid (Kp W1 V1) := by
      show Kp W1 V1
      rw [hp]; exact prw_ok K0.out p
    clear hp
    have hf0 : 0 ≤ i_ := hi0
    clear q1 q0 cm
    have r1 := KV.out.held R1.out
    have hmz := HMZ.out V1 KV.out
    have oz1 := HOZ.out.kp KV.out
    have hfz := ow_replace oz1 (HK1.out.trans KV.out)
    go_wp2_with fail
    refine hmz.mono ?_
    rintro e V2 ⟨rfl, rfl⟩
    go_wp2_with fail
    refine hfz.mono ?_
    rintro e V3 ⟨rfl, n3⟩
    have n3' : Nx w0 W1 V3 z P (rp (bm B i_)) := Nz.from (O := Ow) KV.out n3
    have p3 := HNZ.out V3 _ n3' Right.rp (Nat.zero_le _)
    have r1b := p3.held R1.out HBT.out
    obtain ⟨m', cap', z2, P2, d0, d1, d2, d3, d4, d5, d6⟩ := Bd.own2 p3 (i := j) (by rw [← HNN.out]; exact hjn)
    rw [← HNN.out] at d0 d1
    have HP3 := hid p3
    have D5 := hid d5
    have D0 := hid d0
    have D3 := hid d3
    have hbP : Hid (b ∉ P2) := fun hm => by
      rcases (d6 b hm).2.2 with h5 | h5
      · exact HBT.out h5
      · have := HBl.out; omega
    have hyP : Hid (y ∉ P2) := fun hm => (d6 y hm).1 rfl
    have hmP : Hid (m' ∉ P2) := fun hm => (d6 m' hm).2.1 rfl
    have RB := hid r1b
    have ebm : B.ms.getD j noM = bm B i_ := by unfold bm; rw [HJ.out, Int.toNat_natCast]
    rw [ebm] at d4
    have D4 := hid d4
    have K3 := hid (p3.below HK1.out HT.out)
    have c18 : ∀ V', Kp V3 V' → Calls Try.prog 37 #[.pointer (some ⟨z2, 0, none⟩)] V' fun e w'' => e = .returned (.tuple #[]) ∧ Nz Rw w0 V3 w'' z2 P2 (rp (bm B i_)) := fun V' k => (rw_replace (OL.rw.sp D4.out (k.sp []) (fun _ _ h => by cases h)) (K3.out.trans k)).mono fun e w'' ⟨he, hz⟩ => ⟨he, Nz.from k hz⟩
    have hS1 : ∀ V', Kp V3 V' → V'.cell? ⟨y, 0, none⟩ = some (.slice (some ⟨m', 0, none⟩) n cap') ∧ V'.cell? ⟨b, 1, none⟩ = some (.int .i64 i_) ∧ V'.cell? ⟨m', j, none⟩ = some (.pointer (some ⟨z2, 0, none⟩)) := fun V' k => ⟨k.held D0.out, k.held RB.out, k.held D3.out⟩
    have hS2 : ∀ V', Nz Rw w0 V3 V' z2 P2 (rp (bm B i_)) → V'.cell? ⟨y, 0, none⟩ = some (.slice (some ⟨m', 0, none⟩) n cap') ∧ V'.cell? ⟨b, 1, none⟩ = some (.int .i64 i_) ∧ V'.cell? ⟨m', j, none⟩ = some (.pointer (some ⟨z2, 0, none⟩)) := fun V' ⟨_, _, q2, _⟩ => ⟨q2.held D0.out hyP.out, q2.held RB.out hbP.out, q2.held D3.out hmP.out⟩
    have kr : Kp V3 V3.drew := (Kp.refl V3).drew
    have hj2 : (i_ : Int).toNat = j := by rw [HJ.out]; rfl
    have hjj : i_ = (j : Int) := HJ.out
    clear d0 d3 d4 d5 d6 n3 n3' p3 r1 r1b hmz oz1 hfz ebm
    subst hjj
    go_wp2_with fail
    go_region_held3 (fun V' => V'.cell? ⟨y, 0, none⟩ = some (.slice (some ⟨m', 0, none⟩) n cap') ∧ V'.cell? ⟨b, 1, none⟩ = some (.int .i64 (j : Int)) ∧ V'.cell? ⟨m', j, none⟩ = some (.pointer (some ⟨z2, 0, none⟩))) (first | exact hS1 _ (by assumption) | exact hS2 _ (by assumption)) (first
      | (go_at_call 37; refine (c18 _ (by assumption)).mono ?_; rintro e V4 ⟨rfl, n4⟩))
    all_goals (
      have p4 := D5.out V4 _ n4 Right.rp (Nat.zero_le _)
      have HP4 := hid p4
      clear p4 n4 c18 hS1 hS2 kr
      go_wp2
      go_ret
      exact ⟨rfl, put B (j : Int) (rp (bm B (j : Int))), Nat.le_succ _, Bx.from H01.out HP4.out⟩)
  · have cm0 := Bd.none1 HP.out hf
    have cm : ∀ V', Kp W1 V' → Calls Try.prog 12 #[.pointer (some ⟨x, 0, none⟩), .int .i64 i_] V' fun e w' => e = .returned (.pointer none) ∧ Kp W1 w' := fun V' k => (cm0 V' k).mono fun e w' ⟨he, hw⟩ => ⟨he, by rw [hw]; exact k⟩
    clear cm0
    go_enter Try.func11, Try.ntmps11
    go_wp2_with fail
    rw [← HW.out, ← HB.out]
    clear HW HB
    have q1 : ∀ p, (prw (Kp W1) W1.drew p).cell? ⟨b, 1, none⟩ = some (.int .i64 i_) := fun p => (prw_ok K0.out p).held R1.out
    refine wp_region_pr (Kp W1) K0.out (by kernel_rfl) (by kernel_rfl) ?_
    repeat (first
      | go_big_quiet_skip
      | (go_big_quiet_want; go_big_quiet_op; go_big_quiet_on)
      | (go_big_quiet_want; go_big_quiet_op; apply Exists.intro; refine ⟨fun p => ?_, ?_⟩; (focus
          (go_at_call 12; exact pr_call (cm _ (prw_ok K0.out p)))); go_big_quiet_on))
    refine wpQuiet_nil ?_
    rintro V1 ⟨p, hp⟩
    have KV : Hid (Kp W1 V1) := by
      show Kp W1 V1
      rw [hp]; exact prw_ok K0.out p
    clear hp
    clear q1 cm
    go_wp2
    go_ret
    exact ⟨rfl, B, Nat.le_succ _, Bx.from H01.out (Bd.kp HP.out KV.out)⟩
theorem mask7 (n : Int) : bits .and .i64 n 7 = n % 8 := by
  have h : (BitVec.ofInt 64 7).toNat = 2 ^ 3 - 1 := by decide
  have key : (BitVec.ofInt 64 n &&& BitVec.ofInt 64 7).toNat = (n % ((2 ^ 64 : Nat) : Int)).toNat % 2 ^ 3 := by
    rw [BitVec.toNat_and, BitVec.toNat_ofInt, h, Nat.and_two_pow_sub_one_eq_mod]
  show IntKind.i64.wrap ((BitVec.ofInt 64 n &&& BitVec.ofInt 64 7).toNat : Nat) = n % 8
  rw [key, IntKind.wrap_i64]
  omega
theorem act_bay {w0 W : World} {x y : Nat} {T : List Nat} {B : BS} (K : Kp w0 W) (h : Both Bw Dw w0 W x y T B B) (hg : B.g < 999999) (op i_ at_ : Int) (d : Nat) (odd : Bool) (a0 : Option Addr) (n0 cap0 : Nat) (KK : List (Value × List Nat)) (hd8 : d < 256) (wA : (Lit.int .i64 at_).wf = true) (hk : KL w0 (.slice a0 n0 cap0) KK) : Calls Try.prog 11 #[.pointer (some ⟨x, 0, none⟩), .pointer (some ⟨y, 0, none⟩), .agg #[.int .i64 op, .int .i64 i_, .int .i64 at_, .int .u8 (d : Int), .bool odd, .slice a0 n0 cap0]] W fun e w' => e = .returned (.bool true) ∧ ∃ B', B'.g ≤ B.g + 1 ∧ Bd w0 W x y T B' B' w' := by
  have h1 := mask7 op
  have h3 : op % 8 = 0 ∨ op % 8 = 1 ∨ op % 8 = 2 ∨ op % 8 = 3 ∨ op % 8 = 4 ∨ op % 8 = 5 ∨ op % 8 = 6 ∨ op % 8 = 7 := by omega
  rcases h3 with e | e | e | e | e | e | e | e
  · exact act_b0 K h hg op i_ at_ d odd a0 n0 cap0 KK hd8 wA hk (h1.trans e)
  · exact act_b1 K h hg op i_ at_ d odd a0 n0 cap0 KK hd8 wA hk (h1.trans e)
  · exact act_b2 K h hg op i_ at_ d odd a0 n0 cap0 KK hd8 wA hk (h1.trans e)
  · exact act_b3 K h hg op i_ at_ d odd a0 n0 cap0 KK hd8 wA hk (h1.trans e)
  · exact act_b4 K h hg op i_ at_ d odd a0 n0 cap0 KK hd8 wA hk (h1.trans e)
  · exact act_b5 K h hg op i_ at_ d odd a0 n0 cap0 KK hd8 wA hk (h1.trans e)
  · exact act_b6 K h hg op i_ at_ d odd a0 n0 cap0 KK hd8 wA hk (h1.trans e)
  · exact act_b7 K h hg op i_ at_ d odd a0 n0 cap0 KK hd8 wA hk (h1.trans e)

end Go.Proofs.Ytmklkdopmemfaaa
