/-
  The law's act, by the remainder of Do. Conditions: both members lie in memory, apart; few writes wait.
-/
import Derived.Test.YtohakbhjkhhcaaaMmPair
import Derived.Deep.QuietTactic
import Derived.BigQuiet
import Derived.Deep.RegionWith
import Derived.Deep.RegionHeld3
import Derived.Deep.DeepCutAuto
import Derived.Deep.CutBlock
namespace Go.Proofs.Ytohakbhjkhhcaaa
open Go.RowKit Plain
set_option linter.unusedVariables false

set_option maxRecDepth 100000 in
set_option maxHeartbeats 2000000 in
theorem act_p5 {w0 W : World} {T : List Nat} {x r : Nat} {S : MS} (K : Kp w0 W) (h : Pr w0 W T x r S S) (hR : Right S) (hrl : S.row.length < 999999) (op at_ : Int) (d : Nat) (odd : Bool) (a0 : Option Addr) (n0 cap0 : Nat) (ks : List Nat) (hd8 : d < 256) (hk : KeIn w0 (.slice a0 n0 cap0) ks) (ho : op.tmod 9 = 5) : Calls Try.prog 11 #[.pointer (some ⟨x, 0, none⟩), .pointer (some ⟨r, 0, none⟩), .agg #[.int .i64 op, .int .i64 at_, .int .u8 (d : Int), .bool odd, .slice a0 n0 cap0]] W fun e w' => e = .returned (.bool true) ∧ ∃ S', Right S' ∧ S'.row.length ≤ S.row.length + 1 ∧ Px w0 W T x r S' S' w' := by
  obtain ⟨W1, hW1⟩ : ∃ W1, W1 = W.alloc (.cells #[.int .i64 op, .int .i64 at_, .int .u8 (d : Int), .bool odd, .slice a0 n0 cap0] 31) := ⟨_, rfl⟩
  obtain ⟨B, hB⟩ : ∃ B, B = W.heap.size := ⟨_, rfl⟩
  have k01 : Kp W W1 := by rw [hW1]; exact (Kp.refl W).alloc _
  have K1 : Kp w0 W1 := K.trans k01
  have r1 : W1.cell? ⟨B, 1, none⟩ = some (.int .i64 at_) := by rw [hW1, World.cell?_alloc_at _ _ _ _ hB]; rfl
  have r2 : W1.cell? ⟨B, 2, none⟩ = some (.int .u8 (d : Int)) := by rw [hW1, World.cell?_alloc_at _ _ _ _ hB]; rfl
  have r3 : W1.cell? ⟨B, 3, none⟩ = some (.bool odd) := by rw [hW1, World.cell?_alloc_at _ _ _ _ hB]; rfl
  have r4 : W1.cell? ⟨B, 4, none⟩ = some (.slice a0 n0 cap0) := by rw [hW1, World.cell?_alloc_at _ _ _ _ hB]; rfl
  have hBT : B ∉ T := fun hm => by have := h.low B hm; omega
  have hT := h.new
  have p1 := Px.refl (h.kp k01)
  have HP := hid p1
  have HW := hid hW1
  have HB := hid hB
  have HK1 := hid K1
  have HT := hid hT
  have HKE := hid hk
  have HR := hid hR
  have H01 := hid k01
  have HBT := hid hBT
  have HRL := hid hrl
  have R1 := hid r1
  have R2 := hid r2
  have R3 := hid r3
  have R4 := hid r4
  clear hW1 hB k01 K1 r1 r2 r3 r4 hBT hT p1 hk hR h K hrl
  obtain ⟨sX, esX⟩ : ∃ sX, sX = scS d odd := ⟨_, rfl⟩
  have EsX := hid esX
  clear esX
  have HSX : Hid (∀ V, Calls Try.prog 15 #[.int .u8 (d : Int), .bool odd] V fun e V' => e = .returned (.string sX) ∧ Kp V V') := by rw [EsX.out]; exact sector_any d hd8 odd
  obtain ⟨E, eE⟩ : ∃ E, E = rtB S at_ sX := ⟨_, rfl⟩
  have EE := hid eE
  clear eE
  obtain ⟨N, eN⟩ : ∃ N, N = rt S at_ sX := ⟨_, rfl⟩
  have EN := hid eN
  clear eN
  have HFN : Hid (Fine S) := by
    obtain ⟨T', ⟨P, gs, cap, wv, _, h1, _⟩, _⟩ := HP.out
    exact h1.fine
  have c151 : ∀ V, Px w0 W1 T x r S S V → Calls Try.prog 15 #[.int .u8 (d : Int), .bool odd] V fun e V' => e = .returned (.string sX) ∧ Px w0 W1 T x r S S V' := fun V k => (HSX.out V).mono fun e V' ⟨he, k'⟩ => ⟨he, k.kp k'⟩
  have c152 : ∀ V, Px w0 W1 T x r N S V → Calls Try.prog 15 #[.int .u8 (d : Int), .bool odd] V fun e V' => e = .returned (.string sX) ∧ Px w0 W1 T x r N S V' := fun V k => (HSX.out V).mono fun e V' ⟨he, k'⟩ => ⟨he, k.kp k'⟩
  have cM : ∀ V, Px w0 W1 T x r S S V → Calls Try.prog 20 #[.pointer (some ⟨x, 0, none⟩), .int .i64 at_, .string sX] V fun e V' => e = .returned (.bool E) ∧ Px w0 W1 T x r N S V' := fun V k => by
    have := Px.mem HK1.out HT.out k (fun P o K => ow_rot o K at_ sX)
    rw [← EN.out, ← EE.out] at this
    exact this
  have cD : ∀ V, Px w0 W1 T x r N S V → Calls Try.prog 29 #[.pointer (some ⟨r, 0, none⟩), .int .i64 at_, .string sX] V fun e V' => e = .returned (.bool E) ∧ Px w0 W1 T x r N N V' := fun V k => by
    have := Px.doc HK1.out HT.out k (fun gs cap wv o K hg => rrot_any o at_ sX (by have := HRL.out; omega))
    rw [← EN.out, ← EE.out] at this
    exact this
  have hS1 : ∀ V, Px w0 W1 T x r S S V → V.cell? ⟨B, 1, none⟩ = some (.int .i64 at_) ∧ V.cell? ⟨B, 2, none⟩ = some (.int .u8 (d : Int)) ∧ V.cell? ⟨B, 3, none⟩ = some (.bool odd) := fun V k => ⟨k.held R1.out HBT.out, k.held R2.out HBT.out, k.held R3.out HBT.out⟩
  have hS2 : ∀ V, Px w0 W1 T x r N S V → V.cell? ⟨B, 1, none⟩ = some (.int .i64 at_) ∧ V.cell? ⟨B, 2, none⟩ = some (.int .u8 (d : Int)) ∧ V.cell? ⟨B, 3, none⟩ = some (.bool odd) := fun V k => ⟨k.held R1.out HBT.out, k.held R2.out HBT.out, k.held R3.out HBT.out⟩
  have hS3 : ∀ V, Px w0 W1 T x r N N V → V.cell? ⟨B, 1, none⟩ = some (.int .i64 at_) ∧ V.cell? ⟨B, 2, none⟩ = some (.int .u8 (d : Int)) ∧ V.cell? ⟨B, 3, none⟩ = some (.bool odd) := fun V k => ⟨k.held R1.out HBT.out, k.held R2.out HBT.out, k.held R3.out HBT.out⟩
  go_enter Try.func11, Try.ntmps11
  go_wp2_with fail
  rw [← HW.out, ← HB.out]
  have p1 := HP.out.kp (Kp.refl _).drew
  clear HW
  go_region_held3 (fun V => V.cell? ⟨B, 1, none⟩ = some (.int .i64 at_) ∧ V.cell? ⟨B, 2, none⟩ = some (.int .u8 (d : Int)) ∧ V.cell? ⟨B, 3, none⟩ = some (.bool odd)) (first | exact hS1 _ (by assumption) | exact hS2 _ (by assumption) | exact hS3 _ (by assumption)) (first
    | (go_at_call 15; refine (c151 _ (by assumption)).mono ?_; rintro e wa ⟨rfl, pa⟩)
    | (go_at_call 15; refine (c152 _ (by assumption)).mono ?_; rintro e wb ⟨rfl, pb⟩)
    | (go_at_call 20; refine (cM _ (by assumption)).mono ?_; rintro e wc ⟨rfl, pc⟩)
    | (go_at_call 29; refine (cD _ (by assumption)).mono ?_; rintro e wd ⟨rfl, pd⟩))
  have HPD := hid pd
  clear c151 c152 cM cD hS1 hS2 hS3 p1 pa pb pc pd
  go_wp2
  go_ret
  have hpd := HPD.out
  rw [EN.out] at hpd
  exact ⟨rfl, rt S at_ sX, HR.out.rt at_ sX, by unfold rt; split; (have := tk_len (nq at_) S.row 0; simp only; omega); omega, Px.from H01.out hpd⟩
set_option maxRecDepth 100000 in
set_option maxHeartbeats 2000000 in
theorem act_n5 {w0 W : World} {T : List Nat} {x r : Nat} {S : MS} (K : Kp w0 W) (h : Pr w0 W T x r S S) (hR : Right S) (hrl : S.row.length < 999999) (op at_ : Int) (d : Nat) (odd : Bool) (a0 : Option Addr) (n0 cap0 : Nat) (ks : List Nat) (hd8 : d < 256) (hk : KeIn w0 (.slice a0 n0 cap0) ks) (ho : op.tmod 9 = (-5)) : Calls Try.prog 11 #[.pointer (some ⟨x, 0, none⟩), .pointer (some ⟨r, 0, none⟩), .agg #[.int .i64 op, .int .i64 at_, .int .u8 (d : Int), .bool odd, .slice a0 n0 cap0]] W fun e w' => e = .returned (.bool true) ∧ ∃ S', Right S' ∧ S'.row.length ≤ S.row.length + 1 ∧ Px w0 W T x r S' S' w' := by
  obtain ⟨W1, hW1⟩ : ∃ W1, W1 = W.alloc (.cells #[.int .i64 op, .int .i64 at_, .int .u8 (d : Int), .bool odd, .slice a0 n0 cap0] 31) := ⟨_, rfl⟩
  obtain ⟨B, hB⟩ : ∃ B, B = W.heap.size := ⟨_, rfl⟩
  have k01 : Kp W W1 := by rw [hW1]; exact (Kp.refl W).alloc _
  have K1 : Kp w0 W1 := K.trans k01
  have r1 : W1.cell? ⟨B, 1, none⟩ = some (.int .i64 at_) := by rw [hW1, World.cell?_alloc_at _ _ _ _ hB]; rfl
  have r2 : W1.cell? ⟨B, 2, none⟩ = some (.int .u8 (d : Int)) := by rw [hW1, World.cell?_alloc_at _ _ _ _ hB]; rfl
  have r3 : W1.cell? ⟨B, 3, none⟩ = some (.bool odd) := by rw [hW1, World.cell?_alloc_at _ _ _ _ hB]; rfl
  have r4 : W1.cell? ⟨B, 4, none⟩ = some (.slice a0 n0 cap0) := by rw [hW1, World.cell?_alloc_at _ _ _ _ hB]; rfl
  have hBT : B ∉ T := fun hm => by have := h.low B hm; omega
  have hT := h.new
  have p1 := Px.refl (h.kp k01)
  have HP := hid p1
  have HW := hid hW1
  have HB := hid hB
  have HK1 := hid K1
  have HT := hid hT
  have HKE := hid hk
  have HR := hid hR
  have H01 := hid k01
  have HBT := hid hBT
  have HRL := hid hrl
  have R1 := hid r1
  have R2 := hid r2
  have R3 := hid r3
  have R4 := hid r4
  clear hW1 hB k01 K1 r1 r2 r3 r4 hBT hT p1 hk hR h K hrl
  obtain ⟨sX, esX⟩ : ∃ sX, sX = scS d odd := ⟨_, rfl⟩
  have EsX := hid esX
  clear esX
  have HSX : Hid (∀ V, Calls Try.prog 15 #[.int .u8 (d : Int), .bool odd] V fun e V' => e = .returned (.string sX) ∧ Kp V V') := by rw [EsX.out]; exact sector_any d hd8 odd
  obtain ⟨E, eE⟩ : ∃ E, E = rtB S at_ sX := ⟨_, rfl⟩
  have EE := hid eE
  clear eE
  obtain ⟨N, eN⟩ : ∃ N, N = rt S at_ sX := ⟨_, rfl⟩
  have EN := hid eN
  clear eN
  have HFN : Hid (Fine S) := by
    obtain ⟨T', ⟨P, gs, cap, wv, _, h1, _⟩, _⟩ := HP.out
    exact h1.fine
  have c151 : ∀ V, Px w0 W1 T x r S S V → Calls Try.prog 15 #[.int .u8 (d : Int), .bool odd] V fun e V' => e = .returned (.string sX) ∧ Px w0 W1 T x r S S V' := fun V k => (HSX.out V).mono fun e V' ⟨he, k'⟩ => ⟨he, k.kp k'⟩
  have c152 : ∀ V, Px w0 W1 T x r N S V → Calls Try.prog 15 #[.int .u8 (d : Int), .bool odd] V fun e V' => e = .returned (.string sX) ∧ Px w0 W1 T x r N S V' := fun V k => (HSX.out V).mono fun e V' ⟨he, k'⟩ => ⟨he, k.kp k'⟩
  have cM : ∀ V, Px w0 W1 T x r S S V → Calls Try.prog 20 #[.pointer (some ⟨x, 0, none⟩), .int .i64 at_, .string sX] V fun e V' => e = .returned (.bool E) ∧ Px w0 W1 T x r N S V' := fun V k => by
    have := Px.mem HK1.out HT.out k (fun P o K => ow_rot o K at_ sX)
    rw [← EN.out, ← EE.out] at this
    exact this
  have cD : ∀ V, Px w0 W1 T x r N S V → Calls Try.prog 29 #[.pointer (some ⟨r, 0, none⟩), .int .i64 at_, .string sX] V fun e V' => e = .returned (.bool E) ∧ Px w0 W1 T x r N N V' := fun V k => by
    have := Px.doc HK1.out HT.out k (fun gs cap wv o K hg => rrot_any o at_ sX (by have := HRL.out; omega))
    rw [← EN.out, ← EE.out] at this
    exact this
  have hS1 : ∀ V, Px w0 W1 T x r S S V → V.cell? ⟨B, 1, none⟩ = some (.int .i64 at_) ∧ V.cell? ⟨B, 2, none⟩ = some (.int .u8 (d : Int)) ∧ V.cell? ⟨B, 3, none⟩ = some (.bool odd) := fun V k => ⟨k.held R1.out HBT.out, k.held R2.out HBT.out, k.held R3.out HBT.out⟩
  have hS2 : ∀ V, Px w0 W1 T x r N S V → V.cell? ⟨B, 1, none⟩ = some (.int .i64 at_) ∧ V.cell? ⟨B, 2, none⟩ = some (.int .u8 (d : Int)) ∧ V.cell? ⟨B, 3, none⟩ = some (.bool odd) := fun V k => ⟨k.held R1.out HBT.out, k.held R2.out HBT.out, k.held R3.out HBT.out⟩
  have hS3 : ∀ V, Px w0 W1 T x r N N V → V.cell? ⟨B, 1, none⟩ = some (.int .i64 at_) ∧ V.cell? ⟨B, 2, none⟩ = some (.int .u8 (d : Int)) ∧ V.cell? ⟨B, 3, none⟩ = some (.bool odd) := fun V k => ⟨k.held R1.out HBT.out, k.held R2.out HBT.out, k.held R3.out HBT.out⟩
  go_enter Try.func11, Try.ntmps11
  go_wp2_with fail
  rw [← HW.out, ← HB.out]
  have p1 := HP.out.kp (Kp.refl _).drew
  clear HW
  go_region_held3 (fun V => V.cell? ⟨B, 1, none⟩ = some (.int .i64 at_) ∧ V.cell? ⟨B, 2, none⟩ = some (.int .u8 (d : Int)) ∧ V.cell? ⟨B, 3, none⟩ = some (.bool odd)) (first | exact hS1 _ (by assumption) | exact hS2 _ (by assumption) | exact hS3 _ (by assumption)) (first
    | (go_at_call 15; refine (c151 _ (by assumption)).mono ?_; rintro e wa ⟨rfl, pa⟩)
    | (go_at_call 15; refine (c152 _ (by assumption)).mono ?_; rintro e wb ⟨rfl, pb⟩)
    | (go_at_call 20; refine (cM _ (by assumption)).mono ?_; rintro e wc ⟨rfl, pc⟩)
    | (go_at_call 29; refine (cD _ (by assumption)).mono ?_; rintro e wd ⟨rfl, pd⟩))
  have HPD := hid pd
  clear c151 c152 cM cD hS1 hS2 hS3 p1 pa pb pc pd
  go_wp2
  go_ret
  have hpd := HPD.out
  rw [EN.out] at hpd
  exact ⟨rfl, rt S at_ sX, HR.out.rt at_ sX, by unfold rt; split; (have := tk_len (nq at_) S.row 0; simp only; omega); omega, Px.from H01.out hpd⟩

end Go.Proofs.Ytohakbhjkhhcaaa
