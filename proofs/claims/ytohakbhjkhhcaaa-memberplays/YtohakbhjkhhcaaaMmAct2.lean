/-
  The law's act, by the remainder of Do. Conditions: both members lie in memory, apart; few writes wait.
-/
import Derived.Test.YtohakbhjkhhcaaaMmPair
import Derived.Deep.QuietTactic
import Derived.BigQuiet
import Derived.Deep.RegionWith
import Derived.Deep.RegionHeld3
import Derived.Deep.DeepCutAuto
import Derived.Deep.CutBlock
namespace Go.Proofs.Ytohakbhjkhhcaaa
open Go.RowKit Plain
set_option linter.unusedVariables false

set_option maxRecDepth 100000 in
set_option maxHeartbeats 2000000 in
theorem act_p3 {w0 W : World} {T : List Nat} {x r : Nat} {S : MS} (K : Kp w0 W) (h : Pr w0 W T x r S S) (hR : Right S) (hrl : S.row.length < 999999) (op at_ : Int) (d : Nat) (odd : Bool) (a0 : Option Addr) (n0 cap0 : Nat) (ks : List Nat) (hd8 : d < 256) (hk : KeIn w0 (.slice a0 n0 cap0) ks) (ho : op.tmod 9 = 3) : Calls Try.prog 11 #[.pointer (some ⟨x, 0, none⟩), .pointer (some ⟨r, 0, none⟩), .agg #[.int .i64 op, .int .i64 at_, .int .u8 (d : Int), .bool odd, .slice a0 n0 cap0]] W fun e w' => e = .returned (.bool true) ∧ ∃ S', Right S' ∧ S'.row.length ≤ S.row.length + 1 ∧ Px w0 W T x r S' S' w' := by
  obtain ⟨W1, hW1⟩ : ∃ W1, W1 = W.alloc (.cells #[.int .i64 op, .int .i64 at_, .int .u8 (d : Int), .bool odd, .slice a0 n0 cap0] 31) := ⟨_, rfl⟩
  obtain ⟨B, hB⟩ : ∃ B, B = W.heap.size := ⟨_, rfl⟩
  have k01 : Kp W W1 := by rw [hW1]; exact (Kp.refl W).alloc _
  have K1 : Kp w0 W1 := K.trans k01
  have r1 : W1.cell? ⟨B, 1, none⟩ = some (.int .i64 at_) := by rw [hW1, World.cell?_alloc_at _ _ _ _ hB]; rfl
  have r2 : W1.cell? ⟨B, 2, none⟩ = some (.int .u8 (d : Int)) := by rw [hW1, World.cell?_alloc_at _ _ _ _ hB]; rfl
  have r3 : W1.cell? ⟨B, 3, none⟩ = some (.bool odd) := by rw [hW1, World.cell?_alloc_at _ _ _ _ hB]; rfl
  have r4 : W1.cell? ⟨B, 4, none⟩ = some (.slice a0 n0 cap0) := by rw [hW1, World.cell?_alloc_at _ _ _ _ hB]; rfl
  have hBT : B ∉ T := fun hm => by have := h.low B hm; omega
  have hT := h.new
  have p1 := Px.refl (h.kp k01)
  have HP := hid p1
  have HW := hid hW1
  have HB := hid hB
  have HK1 := hid K1
  have HT := hid hT
  have HKE := hid hk
  have HR := hid hR
  have H01 := hid k01
  have HBT := hid hBT
  have HRL := hid hrl
  have R1 := hid r1
  have R2 := hid r2
  have R3 := hid r3
  have R4 := hid r4
  clear hW1 hB k01 K1 r1 r2 r3 r4 hBT hT p1 hk hR h K hrl
  obtain ⟨E, eE⟩ : ∃ E, E = flE S := ⟨_, rfl⟩
  have EE := hid eE
  clear eE
  go_enter Try.func11, Try.ntmps11
  go_wp2_with fail
  rw [← HW.out, ← HB.out]
  refine (Px.mem HK1.out HT.out HP.out (fun P o K => ow_flush o K)).mono ?_
  rintro e w2 ⟨rfl, p2⟩
  rw [← EE.out]
  have s1 := p2.held R1.out HBT.out
  have s4 := p2.held R4.out HBT.out
  have HP2 := hid p2
  clear p2
  go_wp2_with fail
  refine (Px.doc HK1.out HT.out HP2.out (fun gs cap wv o K hg => rflush_any o)).mono ?_
  rintro e w3 ⟨rfl, p3⟩
  rw [← EE.out]
  have HP3 := hid p3
  clear p3 HP2 s1 s4
  go_wp2
  go_ret
  exact ⟨rfl, fl S, HR.out.fl, by unfold fl; split <;> simp, Px.from H01.out HP3.out⟩
set_option maxRecDepth 100000 in
set_option maxHeartbeats 2000000 in
theorem act_n3 {w0 W : World} {T : List Nat} {x r : Nat} {S : MS} (K : Kp w0 W) (h : Pr w0 W T x r S S) (hR : Right S) (hrl : S.row.length < 999999) (op at_ : Int) (d : Nat) (odd : Bool) (a0 : Option Addr) (n0 cap0 : Nat) (ks : List Nat) (hd8 : d < 256) (hk : KeIn w0 (.slice a0 n0 cap0) ks) (ho : op.tmod 9 = (-3)) : Calls Try.prog 11 #[.pointer (some ⟨x, 0, none⟩), .pointer (some ⟨r, 0, none⟩), .agg #[.int .i64 op, .int .i64 at_, .int .u8 (d : Int), .bool odd, .slice a0 n0 cap0]] W fun e w' => e = .returned (.bool true) ∧ ∃ S', Right S' ∧ S'.row.length ≤ S.row.length + 1 ∧ Px w0 W T x r S' S' w' := by
  obtain ⟨W1, hW1⟩ : ∃ W1, W1 = W.alloc (.cells #[.int .i64 op, .int .i64 at_, .int .u8 (d : Int), .bool odd, .slice a0 n0 cap0] 31) := ⟨_, rfl⟩
  obtain ⟨B, hB⟩ : ∃ B, B = W.heap.size := ⟨_, rfl⟩
  have k01 : Kp W W1 := by rw [hW1]; exact (Kp.refl W).alloc _
  have K1 : Kp w0 W1 := K.trans k01
  have r1 : W1.cell? ⟨B, 1, none⟩ = some (.int .i64 at_) := by rw [hW1, World.cell?_alloc_at _ _ _ _ hB]; rfl
  have r2 : W1.cell? ⟨B, 2, none⟩ = some (.int .u8 (d : Int)) := by rw [hW1, World.cell?_alloc_at _ _ _ _ hB]; rfl
  have r3 : W1.cell? ⟨B, 3, none⟩ = some (.bool odd) := by rw [hW1, World.cell?_alloc_at _ _ _ _ hB]; rfl
  have r4 : W1.cell? ⟨B, 4, none⟩ = some (.slice a0 n0 cap0) := by rw [hW1, World.cell?_alloc_at _ _ _ _ hB]; rfl
  have hBT : B ∉ T := fun hm => by have := h.low B hm; omega
  have hT := h.new
  have p1 := Px.refl (h.kp k01)
  have HP := hid p1
  have HW := hid hW1
  have HB := hid hB
  have HK1 := hid K1
  have HT := hid hT
  have HKE := hid hk
  have HR := hid hR
  have H01 := hid k01
  have HBT := hid hBT
  have HRL := hid hrl
  have R1 := hid r1
  have R2 := hid r2
  have R3 := hid r3
  have R4 := hid r4
  clear hW1 hB k01 K1 r1 r2 r3 r4 hBT hT p1 hk hR h K hrl
  obtain ⟨E, eE⟩ : ∃ E, E = flE S := ⟨_, rfl⟩
  have EE := hid eE
  clear eE
  go_enter Try.func11, Try.ntmps11
  go_wp2_with fail
  rw [← HW.out, ← HB.out]
  refine (Px.mem HK1.out HT.out HP.out (fun P o K => ow_flush o K)).mono ?_
  rintro e w2 ⟨rfl, p2⟩
  rw [← EE.out]
  have s1 := p2.held R1.out HBT.out
  have s4 := p2.held R4.out HBT.out
  have HP2 := hid p2
  clear p2
  go_wp2_with fail
  refine (Px.doc HK1.out HT.out HP2.out (fun gs cap wv o K hg => rflush_any o)).mono ?_
  rintro e w3 ⟨rfl, p3⟩
  rw [← EE.out]
  have HP3 := hid p3
  clear p3 HP2 s1 s4
  go_wp2
  go_ret
  exact ⟨rfl, fl S, HR.out.fl, by unfold fl; split <;> simp, Px.from H01.out HP3.out⟩
set_option maxRecDepth 100000 in
set_option maxHeartbeats 2000000 in
theorem act_p4 {w0 W : World} {T : List Nat} {x r : Nat} {S : MS} (K : Kp w0 W) (h : Pr w0 W T x r S S) (hR : Right S) (hrl : S.row.length < 999999) (op at_ : Int) (d : Nat) (odd : Bool) (a0 : Option Addr) (n0 cap0 : Nat) (ks : List Nat) (hd8 : d < 256) (hk : KeIn w0 (.slice a0 n0 cap0) ks) (ho : op.tmod 9 = 4) : Calls Try.prog 11 #[.pointer (some ⟨x, 0, none⟩), .pointer (some ⟨r, 0, none⟩), .agg #[.int .i64 op, .int .i64 at_, .int .u8 (d : Int), .bool odd, .slice a0 n0 cap0]] W fun e w' => e = .returned (.bool true) ∧ ∃ S', Right S' ∧ S'.row.length ≤ S.row.length + 1 ∧ Px w0 W T x r S' S' w' := by
  obtain ⟨W1, hW1⟩ : ∃ W1, W1 = W.alloc (.cells #[.int .i64 op, .int .i64 at_, .int .u8 (d : Int), .bool odd, .slice a0 n0 cap0] 31) := ⟨_, rfl⟩
  obtain ⟨B, hB⟩ : ∃ B, B = W.heap.size := ⟨_, rfl⟩
  have k01 : Kp W W1 := by rw [hW1]; exact (Kp.refl W).alloc _
  have K1 : Kp w0 W1 := K.trans k01
  have r1 : W1.cell? ⟨B, 1, none⟩ = some (.int .i64 at_) := by rw [hW1, World.cell?_alloc_at _ _ _ _ hB]; rfl
  have r2 : W1.cell? ⟨B, 2, none⟩ = some (.int .u8 (d : Int)) := by rw [hW1, World.cell?_alloc_at _ _ _ _ hB]; rfl
  have r3 : W1.cell? ⟨B, 3, none⟩ = some (.bool odd) := by rw [hW1, World.cell?_alloc_at _ _ _ _ hB]; rfl
  have r4 : W1.cell? ⟨B, 4, none⟩ = some (.slice a0 n0 cap0) := by rw [hW1, World.cell?_alloc_at _ _ _ _ hB]; rfl
  have hBT : B ∉ T := fun hm => by have := h.low B hm; omega
  have hT := h.new
  have p1 := Px.refl (h.kp k01)
  have HP := hid p1
  have HW := hid hW1
  have HB := hid hB
  have HK1 := hid K1
  have HT := hid hT
  have HKE := hid hk
  have HR := hid hR
  have H01 := hid k01
  have HBT := hid hBT
  have HRL := hid hrl
  have R1 := hid r1
  have R2 := hid r2
  have R3 := hid r3
  have R4 := hid r4
  clear hW1 hB k01 K1 r1 r2 r3 r4 hBT hT p1 hk hR h K hrl
  go_enter Try.func11, Try.ntmps11
  go_wp2_with fail
  rw [← HW.out, ← HB.out]
  refine (Px.mem HK1.out HT.out HP.out (fun P o K => ow_crash o K _ ks (HKE.out.kp K) (HKE.out.apart o.new) (by have := HRL.out; omega))).mono ?_
  rintro e w2 ⟨rfl, p2⟩
  skip
  have s1 := p2.held R1.out HBT.out
  have s4 := p2.held R4.out HBT.out
  have HP2 := hid p2
  clear p2
  go_wp2_with fail
  refine (Px.doc HK1.out HT.out HP2.out (fun gs cap wv o K hg => rcrash_any o HR.out ks (HKE.out.kp K) (HKE.out.apart (P := [gs]) (fun t ht => by simp at ht; subst ht; exact hg) gs (by simp)) (by have := HRL.out; omega))).mono ?_
  rintro e w3 ⟨rfl, p3⟩
  skip
  have HP3 := hid p3
  clear p3 HP2 s1 s4
  go_wp2
  go_ret
  exact ⟨rfl, cr S (bit ks), Right.cr _, by simp [cr], Px.from H01.out HP3.out⟩
set_option maxRecDepth 100000 in
set_option maxHeartbeats 2000000 in
theorem act_n4 {w0 W : World} {T : List Nat} {x r : Nat} {S : MS} (K : Kp w0 W) (h : Pr w0 W T x r S S) (hR : Right S) (hrl : S.row.length < 999999) (op at_ : Int) (d : Nat) (odd : Bool) (a0 : Option Addr) (n0 cap0 : Nat) (ks : List Nat) (hd8 : d < 256) (hk : KeIn w0 (.slice a0 n0 cap0) ks) (ho : op.tmod 9 = (-4)) : Calls Try.prog 11 #[.pointer (some ⟨x, 0, none⟩), .pointer (some ⟨r, 0, none⟩), .agg #[.int .i64 op, .int .i64 at_, .int .u8 (d : Int), .bool odd, .slice a0 n0 cap0]] W fun e w' => e = .returned (.bool true) ∧ ∃ S', Right S' ∧ S'.row.length ≤ S.row.length + 1 ∧ Px w0 W T x r S' S' w' := by
  obtain ⟨W1, hW1⟩ : ∃ W1, W1 = W.alloc (.cells #[.int .i64 op, .int .i64 at_, .int .u8 (d : Int), .bool odd, .slice a0 n0 cap0] 31) := ⟨_, rfl⟩
  obtain ⟨B, hB⟩ : ∃ B, B = W.heap.size := ⟨_, rfl⟩
  have k01 : Kp W W1 := by rw [hW1]; exact (Kp.refl W).alloc _
  have K1 : Kp w0 W1 := K.trans k01
  have r1 : W1.cell? ⟨B, 1, none⟩ = some (.int .i64 at_) := by rw [hW1, World.cell?_alloc_at _ _ _ _ hB]; rfl
  have r2 : W1.cell? ⟨B, 2, none⟩ = some (.int .u8 (d : Int)) := by rw [hW1, World.cell?_alloc_at _ _ _ _ hB]; rfl
  have r3 : W1.cell? ⟨B, 3, none⟩ = some (.bool odd) := by rw [hW1, World.cell?_alloc_at _ _ _ _ hB]; rfl
  have r4 : W1.cell? ⟨B, 4, none⟩ = some (.slice a0 n0 cap0) := by rw [hW1, World.cell?_alloc_at _ _ _ _ hB]; rfl
  have hBT : B ∉ T := fun hm => by have := h.low B hm; omega
  have hT := h.new
  have p1 := Px.refl (h.kp k01)
  have HP := hid p1
  have HW := hid hW1
  have HB := hid hB
  have HK1 := hid K1
  have HT := hid hT
  have HKE := hid hk
  have HR := hid hR
  have H01 := hid k01
  have HBT := hid hBT
  have HRL := hid hrl
  have R1 := hid r1
  have R2 := hid r2
  have R3 := hid r3
  have R4 := hid r4
  clear hW1 hB k01 K1 r1 r2 r3 r4 hBT hT p1 hk hR h K hrl
  go_enter Try.func11, Try.ntmps11
  go_wp2_with fail
  rw [← HW.out, ← HB.out]
  refine (Px.mem HK1.out HT.out HP.out (fun P o K => ow_crash o K _ ks (HKE.out.kp K) (HKE.out.apart o.new) (by have := HRL.out; omega))).mono ?_
  rintro e w2 ⟨rfl, p2⟩
  skip
  have s1 := p2.held R1.out HBT.out
  have s4 := p2.held R4.out HBT.out
  have HP2 := hid p2
  clear p2
  go_wp2_with fail
  refine (Px.doc HK1.out HT.out HP2.out (fun gs cap wv o K hg => rcrash_any o HR.out ks (HKE.out.kp K) (HKE.out.apart (P := [gs]) (fun t ht => by simp at ht; subst ht; exact hg) gs (by simp)) (by have := HRL.out; omega))).mono ?_
  rintro e w3 ⟨rfl, p3⟩
  skip
  have HP3 := hid p3
  clear p3 HP2 s1 s4
  go_wp2
  go_ret
  exact ⟨rfl, cr S (bit ks), Right.cr _, by simp [cr], Px.from H01.out HP3.out⟩

end Go.Proofs.Ytohakbhjkhhcaaa
