/-
  MemberDead (P10.1 to P10.4): of a dead member, and of a nil one, nothing is had or done. No condition.
-/
import Derived.Test.YtohakbhjkhhcaaaRows
import Derived.Test.YtohakbhjkhhcaaaBufArgs
import Derived.Test.YtohakbhjkhhcaaaMmCls
import Derived.WalkKit
import Derived.ProofKit
import Derived.OpenShut
import Derived.ShutString
import Derived.Deep.QuietTactic
import Derived.BigQuiet
import Derived.Deep.RegionWith
import Derived.Deep.RegionHeld3
import Derived.Deep.DeepCutAuto
import Derived.Deep.CutBlock
namespace Go.Proofs.Ytohakbhjkhhcaaa.memberDead
open Go.ChangeShapes Go.WideShapes Go.ChangeAt Go.RowKit
open Go.ChangeMaps (open_string shut_string)
open Go.Proofs.Ytohakbhjkhhcaaa Plain
set_option linter.unusedVariables false

theorem own : ownKnob Try.prog.godebug = none := by kernel_rfl
theorem laidOut : laidOutB Try.prog = true := by kernel_rfl
theorem rc_dead {L N : List ByteArray} {r : List (Nat × ByteArray)} {c : Nat → Int} (k : Int) : rcE ⟨L, N, r, true, c⟩ k = 22 := if_pos rfl
theorem wr_dead {L N : List ByteArray} {r : List (Nat × ByteArray)} {c : Nat → Int} (k : Int) (s : ByteArray) : wrE ⟨L, N, r, true, c⟩ k s = 22 ∧ wr ⟨L, N, r, true, c⟩ k s = ⟨L, N, r, true, c⟩ := by
  have h : wrE ⟨L, N, r, true, c⟩ k s = 22 := by unfold wrE; rw [rc_dead, if_neg (by decide)]
  exact ⟨h, by unfold wr; rw [h]; rfl⟩
theorem rt_dead {L N : List ByteArray} {r : List (Nat × ByteArray)} {c : Nat → Int} (k : Int) (s : ByteArray) : rtB ⟨L, N, r, true, c⟩ k s = false ∧ rt ⟨L, N, r, true, c⟩ k s = ⟨L, N, r, true, c⟩ := by
  have h : rtB ⟨L, N, r, true, c⟩ k s = false := by unfold rtB; rw [rc_dead]; rfl
  exact ⟨h, by unfold rt; rw [h]; rfl⟩
/-- behind calls on a member that leave it as it is. -/
def Rx (w0 W : World) (b : Nat) (T : List Nat) (S : MS) (w' : World) : Prop := ∃ T', Ow w0 w' b T' S ∧ Sp T W w' ∧ Nw W T T'
theorem Rx.step {w0 W w' w'' : World} {b : Nat} {T T' : List Nat} {S S' : MS} (h1 : Ow w0 w' b T' S) (h2 : Sp T W w') (h3 : Nw W T T') (h : Nx w0 w' w'' b T' S') : Rx w0 W b T S' w'' := by
  obtain ⟨T2, q1, q2, q3⟩ := h
  exact ⟨T2, q1, h2.then q2 h3, h3.trans q3 h2.size⟩
theorem Rx.kp {w0 W w' w'' : World} {b : Nat} {T : List Nat} {S : MS} (h : Rx w0 W b T S w') (k : Kp w' w'') : Rx w0 W b T S w'' := by
  obtain ⟨T', h1, h2, h3⟩ := h
  exact ⟨T', h1.kp k, h2.trans (k.sp _), h3⟩
set_option maxRecDepth 100000 in
set_option maxHeartbeats 4000000 in
theorem walkN (w : World) (a : AC) (ha : AOk w a) :
    Calls Try.prog 6 #[aV a] w fun e w' => e = .returned (.bool true) ∧ Kp w w' := by
  obtain ⟨op, at_, data, odd, kv, ks⟩ := a
  have hdat : data < 256 := ha.d
  have hke : KeIn w kv ks := ha.k
  obtain ⟨a0, cap0, rfl, _⟩ := hke.h
  obtain ⟨n0, hn0⟩ : ∃ n0, n0 = ks.length := ⟨_, rfl⟩
  unfold aV acs
  simp only
  rw [← hn0] at hke ⊢
  show Calls Try.prog 6 #[.agg #[.int .i64 op, .int .i64 at_, .int .u8 (data : Int), .bool odd, .slice a0 n0 cap0]] w _
  clear ha hn0
  obtain ⟨w0, hw0⟩ : ∃ w0, w0 = w.alloc (.cells #[.int .i64 op, .int .i64 at_, .int .u8 (data : Int), .bool odd, .slice a0 n0 cap0] 31) := ⟨_, rfl⟩
  obtain ⟨B, hB⟩ : ∃ B, B = w.heap.size := ⟨_, rfl⟩
  have k0 : Kp w w0 := by rw [hw0]; exact (Kp.refl w).alloc _
  have r1 : w0.cell? ⟨B, 1, none⟩ = some (.int .i64 at_) := by rw [hw0, World.cell?_alloc_at _ _ _ _ hB]; rfl
  have r2 : w0.cell? ⟨B, 2, none⟩ = some (.int .u8 (data : Int)) := by rw [hw0, World.cell?_alloc_at _ _ _ _ hB]; rfl
  have r3 : w0.cell? ⟨B, 3, none⟩ = some (.bool odd) := by rw [hw0, World.cell?_alloc_at _ _ _ _ hB]; rfl
  have r4 : w0.cell? ⟨B, 4, none⟩ = some (.slice a0 n0 cap0) := by rw [hw0, World.cell?_alloc_at _ _ _ _ hB]; rfl
  have hBl : B < w0.heap.size := World.block_lt_of_cell? _ _ r1
  have HW := hid hw0
  have HB := hid hB
  have hBw : w.heap.size ≤ B := by omega
  have hkv2 : ∃ a n c, (.slice a0 n0 cap0 : Value) = .slice a n c := ⟨_, _, _, rfl⟩
  clear hw0 hB
  obtain ⟨X, hX⟩ : ∃ X, X = scS 120 false := ⟨_, rfl⟩
  have sX := sector_any 120 (by omega) false
  have zX := scS_size 120
  rw [← hX] at sX zX
  have HX := hid zX
  clear hX zX
  go_enter Try.func6, Try.ntmps6
  go_wp2_with fail
  rw [← HW.out, ← HB.out]
  refine (ow_new 4 w w0 k0).mono ?_
  rintro e w1 ⟨b, T1, rfl, h1, k1, t1⟩
  rw [show nw (nwN 4) = ⟨[z64, z64, z64, z64], [z64, z64, z64, z64], [], false, fun _ => 0⟩ from rfl] at h1
  go_wp2_with fail
  refine (sX w1).mono ?_
  rintro e w2 ⟨rfl, k2⟩
  have h2 := h1.kp k2
  have K2 := (k0.trans k1).trans k2
  have kk2 := k1.trans k2
  clear h1 k1 k2
  go_wp2_with fail
  refine (ow_write h2 K2 1 X (by simp)).mono ?_
  rintro e w3 ⟨rfl, m3⟩
  have e3 : wrE ⟨[z64, z64, z64, z64], [z64, z64, z64, z64], [], false, fun _ => 0⟩ 1 X = 0 := by unfold wrE; rw [if_pos (by rfl), if_pos HX.out]
  rw [e3]
  rw [show wr ⟨[z64, z64, z64, z64], [z64, z64, z64, z64], [], false, fun _ => 0⟩ 1 X = ⟨[z64, X, z64, z64], [z64, z64, z64, z64], [(1, X)], false, up (fun _ => 0) 1⟩ from if_pos e3] at m3
  have K3 := m3.kp h2 K2
  obtain ⟨T3, h3, s3, n3⟩ := m3
  have F3 : Sp T1 w0 w3 := (kk2.sp _).trans s3
  have N3 : Nw w0 T1 T3 := (Nw.refl w0 T1).trans n3 kk2.size
  clear h2 K2 e3
  go_wp2_with fail
  refine (ow_fail h3 K3).mono ?_
  rintro e w4 ⟨rfl, m4⟩
  rw [show fa ⟨[z64, X, z64, z64], [z64, z64, z64, z64], [(1, X)], false, up (fun _ => 0) 1⟩ = ⟨[z64, X, z64, z64], [z64, z64, z64, z64], [], true, up (fun _ => 0) 1⟩ from rfl] at m4
  have K4 := m4.kp h3 K3
  have X4 := Rx.step h3 F3 N3 m4
  have hBT : B ∉ T1 := fun hm => by have := t1 B hm; omega
  clear h3 K3 F3 N3 m4 s3 n3
  obtain ⟨T4, o4, s4, n4⟩ := X4
  have hB4 : B ∉ T4 := fun hm => by
    rcases n4 B hm with h | h
    · exact hBT h
    · omega
  have b1 := s4.held r1 hBT
  have b2 := s4.held r2 hBT
  have b3 := s4.held r3 hBT
  have b4 := s4.held r4 hBT
  clear r1 r2 r3 r4 s4 n4
  go_wp2_with fail
  refine wp_loop_rounds 3 ?_
  rw [rounds_succ]
  obtain ⟨w5, hw5⟩ : ∃ w5, w5 = w4.alloc (.cells #[.pointer none, .pointer (some ⟨b, 0, none⟩)] 23) := ⟨_, rfl⟩
  obtain ⟨G, hG⟩ : ∃ G, G = w4.heap.size := ⟨_, rfl⟩
  rw [← hw5, ← hG]
  have k5 : Kp w4 w5 := by rw [hw5]; exact (Kp.refl w4).alloc _
  have g0 : w5.cell? ⟨G, 0, none⟩ = some (.pointer none) := by rw [hw5, World.cell?_alloc_at _ _ _ _ hG]; rfl
  have g1 : w5.cell? ⟨G, 1, none⟩ = some (.pointer (some ⟨b, 0, none⟩)) := by rw [hw5, World.cell?_alloc_at _ _ _ _ hG]; rfl
  have hG4 : G ∉ T4 := fun hm => by have := o4.low G hm; omega
  have o5 := o4.kp k5
  have K5 := K4.trans k5
  have a1 := k5.held b1
  have a2 := k5.held b2
  have a3 := k5.held b3
  have a4 := k5.held b4
  have hB5 : B < w5.heap.size := World.block_lt_of_cell? _ _ a1
  clear hw5 k5 o4 K4 b1 b2 b3 b4 hG
  have H5 := hid o5
  have HK5 := hid K5
  clear o5 K5
  go_wp2_with fail
  have kA : Kp w5 (w5.alloc (.cells #[.int .i64 1, .int .i64 22] 38)) := (Kp.refl w5).alloc _
  obtain ⟨w6, hw6⟩ : ∃ w6, w6 = w5.alloc (.cells #[.int .i64 1, .int .i64 22] 38) := ⟨_, rfl⟩
  rw [← hw6] at kA ⊢
  clear hw6
  refine (nil_read at_ _).mono ?_
  rintro e w7 ⟨rfl, rfl⟩
  have d4 := kA.held a4
  go_wp2_with fail
  refine (nil_crash (.slice a0 n0 cap0) ⟨_, _, _, rfl⟩ _).mono ?_
  rintro e w8 ⟨rfl, k8⟩
  have k8' := kA.trans k8
  clear kA k8 d4
  have c15 : ∀ (o : Bool) V, Kp w5 V → Calls Try.prog 15 #[.int .u8 (data : Int), .bool o] V fun e V' => e = .returned (.string (scS data o)) ∧ Kp w5 V' := fun o V k => (sector_any data hdat o V).mono fun e V' ⟨he, k'⟩ => ⟨he, k.trans k'⟩
  have c14 : ∀ s V, Kp w5 V → Calls Try.prog 14 #[.pointer none, .int .i64 at_, .string s] V fun e V' => e = .returned (.int .i64 1) ∧ Kp w5 V' := fun s V k => (nil_write at_ s V).mono fun e V' ⟨he, k'⟩ => ⟨he, k' ▸ k⟩
  have c16 : ∀ V, Kp w5 V → Calls Try.prog 16 #[.pointer none] V fun e V' => e = .returned (.int .i64 1) ∧ Kp w5 V' := fun V k => (nil_flush V).mono fun e V' ⟨he, k'⟩ => ⟨he, k' ▸ k⟩
  have c20 : ∀ s V, Kp w5 V → Calls Try.prog 20 #[.pointer none, .int .i64 at_, .string s] V fun e V' => e = .returned (.bool false) ∧ Kp w5 V' := fun s V k => (nil_rot at_ s V).mono fun e V' ⟨he, k'⟩ => ⟨he, k.trans k'⟩
  have c18 : ∀ V, Kp w5 V → Calls Try.prog 18 #[.pointer none] V fun e V' => e = .returned (.slice none 0 0) ∧ Kp w5 V' := fun V k => (nil_waiting V).mono fun e V' ⟨he, k'⟩ => ⟨he, k' ▸ k⟩
  have c21 : ∀ V, Kp w5 V → Calls Try.prog 21 #[.pointer none] V fun e V' => e = .returned (.bool false) ∧ Kp w5 V' := fun V k => (nil_dead V).mono fun e V' ⟨he, k'⟩ => ⟨he, k' ▸ k⟩
  have hS : ∀ V, Kp w5 V → V.cell? ⟨B, 1, none⟩ = some (.int .i64 at_) ∧ V.cell? ⟨B, 2, none⟩ = some (.int .u8 (data : Int)) ∧ V.cell? ⟨B, 3, none⟩ = some (.bool odd) := fun V k => ⟨k.held a1, k.held a2, k.held a3⟩
  have hr0 : Kp w5 w8.drew := k8'.drew
  go_wp2_with fail
  go_region_held3 (fun V => V.cell? ⟨B, 1, none⟩ = some (.int .i64 at_) ∧ V.cell? ⟨B, 2, none⟩ = some (.int .u8 (data : Int)) ∧ V.cell? ⟨B, 3, none⟩ = some (.bool odd)) (exact hS _ (by assumption)) (first
    | (go_at_call 15; refine (c15 _ _ (by assumption)).mono ?_; rintro e wN ⟨rfl, hrN⟩)
    | (go_at_call 14; refine (c14 _ _ (by assumption)).mono ?_; rintro e wN ⟨rfl, hrN⟩)
    | (go_at_call 16; refine (c16 _ (by assumption)).mono ?_; rintro e wN ⟨rfl, hrN⟩)
    | (go_at_call 20; refine (c20 _ _ (by assumption)).mono ?_; rintro e wN ⟨rfl, hrN⟩)
    | (go_at_call 18; refine (c18 _ (by assumption)).mono ?_; rintro e wN ⟨rfl, hrN⟩)
    | (go_at_call 21; refine (c21 _ (by assumption)).mono ?_; rintro e wN ⟨rfl, hrN⟩))
  have H9 := hid (H5.out.kp hrN)
  have HK9 := hid (HK5.out.trans hrN)
  have a1' := hrN.held a1
  have a2' := hrN.held a2
  have a3' := hrN.held a3
  have a4' := hrN.held a4
  have g1' := hrN.held g1
  have hB9 : B < wN.heap.size := World.block_lt_of_cell? _ _ a1'
  clear H5 HK5 a1 a2 a3 a4 g0 g1 hB5 c14 c15 c16 c18 c20 c21 hS hr0 k8' hrN
  go_wp2_with fail
  rw [rounds_succ]
  go_wp2_with fail
  have kA : Kp wN (wN.alloc (.cells #[.int .i64 1, .int .i64 22] 38)) := (Kp.refl wN).alloc _
  obtain ⟨w11, hw11⟩ : ∃ w11, w11 = wN.alloc (.cells #[.int .i64 1, .int .i64 22] 38) := ⟨_, rfl⟩
  rw [← hw11] at kA ⊢
  clear hw11
  have o11 := H9.out.kp kA
  have K11 := HK9.out.trans kA
  refine (ow_read o11 K11 at_).mono ?_
  rintro e w12 ⟨rfl, m12⟩
  have K12 := m12.kp o11 K11
  obtain ⟨T12, o12, s12, n12⟩ := m12
  rw [rc_dead, show rdS ⟨[z64, X, z64, z64], [z64, z64, z64, z64], [], true, up (fun _ => 0) 1⟩ at_ = ByteArray.empty from by unfold rdS; rw [rc_dead, if_neg (by decide)]]
  rw [show rd ⟨[z64, X, z64, z64], [z64, z64, z64, z64], [], true, up (fun _ => 0) 1⟩ at_ = ⟨[z64, X, z64, z64], [z64, z64, z64, z64], [], true, up (fun _ => 0) 1⟩ from by unfold rd; rw [rc_dead, if_neg (by decide)]] at o12
  have hB12 : B ∉ T12 := fun hm => by
    rcases n12 B hm with h | h
    · exact hB4 h
    · have := kA.size; omega
  have b1 := s12.held (kA.held a1') hB4
  have b2 := s12.held (kA.held a2') hB4
  have b3 := s12.held (kA.held a3') hB4
  have b4 := s12.held (kA.held a4') hB4
  clear kA o11 K11 s12 n12 H9 HK9 a1' a2' a3' a4' g1' hB9
  go_wp2_with fail
  refine (ow_crash o12 K12 (.slice a0 n0 cap0) ks (hke.kp K12) (fun t ht g off n c hv hn => by have h1 := hke.far g off n c hv hn; have h2 := o12.new t ht; omega) (by simp)).mono ?_
  rintro e w13 ⟨rfl, m13⟩
  have K13 := m13.kp o12 K12
  obtain ⟨T13, o13, s13, n13⟩ := m13
  rw [show cr ⟨[z64, X, z64, z64], [z64, z64, z64, z64], [], true, up (fun _ => 0) 1⟩ (bit ks) = ⟨[z64, z64, z64, z64], [z64, z64, z64, z64], [], true, up (fun _ => 0) 1⟩ from rfl] at o13
  have hBw12 : B < w12.heap.size := World.block_lt_of_cell? _ _ b1
  have hB13 : B ∉ T13 := fun hm => by
    rcases n13 B hm with h | h
    · exact hB12 h
    · omega
  have a1 := s13.held b1 hB12
  have a2 := s13.held b2 hB12
  have a3 := s13.held b3 hB12
  clear o12 K12 s13 n13 b1 b2 b3 b4 hBw12
  obtain ⟨S, hS0⟩ : ∃ S : MS, S = ⟨[z64, z64, z64, z64], [z64, z64, z64, z64], [], true, up (fun _ => 0) 1⟩ := ⟨_, rfl⟩
  have eW : ∀ k s, wrE S k s = 22 ∧ wr S k s = S := fun k s => by rw [hS0]; exact wr_dead k s
  have eR : ∀ k s, rtB S k s = false ∧ rt S k s = S := fun k s => by rw [hS0]; exact rt_dead k s
  have eF : flE S = 22 ∧ fl S = S := by rw [hS0]; exact ⟨rfl, rfl⟩
  have eQ : S.row.length = 0 := by rw [hS0]; rfl
  have eD : S.dead = true := by rw [hS0]
  rw [← hS0] at o13
  have HS0 := hid hS0
  clear hS0
  have x13 : Rx w w13 b T13 S w13 := ⟨T13, o13, Sp.refl _ _, Nw.refl _ _⟩
  have HX13 := hid x13
  have kRx : ∀ V, Rx w w13 b T13 S V → Kp w V := fun V ⟨T', h1, h2, h3⟩ => Sp.kp K13 h2 o13.new
  have c15 : ∀ (o : Bool) V, Rx w w13 b T13 S V → Calls Try.prog 15 #[.int .u8 (data : Int), .bool o] V fun e V' => e = .returned (.string (scS data o)) ∧ Rx w w13 b T13 S V' := fun o V k => (sector_any data hdat o V).mono fun e V' ⟨he, k'⟩ => ⟨he, k.kp k'⟩
  have c14 : ∀ s V, Rx w w13 b T13 S V → Calls Try.prog 14 #[.pointer (some ⟨b, 0, none⟩), .int .i64 at_, .string s] V fun e V' => e = .returned (.int .i64 22) ∧ Rx w w13 b T13 S V' := fun s V k => by
    have KV := kRx V k
    obtain ⟨T', h1, h2, h3⟩ := k
    refine (ow_write h1 KV at_ s (by rw [eQ]; omega)).mono fun e V' ⟨he, k'⟩ => ?_
    rw [(eW at_ s).1] at he
    rw [(eW at_ s).2] at k'
    exact ⟨he, Rx.step h1 h2 h3 k'⟩
  have c16 : ∀ V, Rx w w13 b T13 S V → Calls Try.prog 16 #[.pointer (some ⟨b, 0, none⟩)] V fun e V' => e = .returned (.int .i64 22) ∧ Rx w w13 b T13 S V' := fun V k => by
    have KV := kRx V k
    obtain ⟨T', h1, h2, h3⟩ := k
    refine (ow_flush h1 KV).mono fun e V' ⟨he, k'⟩ => ?_
    rw [eF.1] at he
    rw [eF.2] at k'
    exact ⟨he, Rx.step h1 h2 h3 k'⟩
  have c20 : ∀ s V, Rx w w13 b T13 S V → Calls Try.prog 20 #[.pointer (some ⟨b, 0, none⟩), .int .i64 at_, .string s] V fun e V' => e = .returned (.bool false) ∧ Rx w w13 b T13 S V' := fun s V k => by
    have KV := kRx V k
    obtain ⟨T', h1, h2, h3⟩ := k
    refine (ow_rot h1 KV at_ s).mono fun e V' ⟨he, k'⟩ => ?_
    rw [(eR at_ s).1] at he
    rw [(eR at_ s).2] at k'
    exact ⟨he, Rx.step h1 h2 h3 k'⟩
  have c18 : ∀ V, Rx w w13 b T13 S V → Calls Try.prog 18 #[.pointer (some ⟨b, 0, none⟩)] V fun e V' => ∃ g, e = .returned (.slice (some ⟨g, 0, none⟩) 0 0) ∧ Rx w w13 b T13 S V' := fun V k => by
    have KV := kRx V k
    obtain ⟨T', h1, h2, h3⟩ := k
    refine (ow_waiting h1 KV (by rw [eQ]; omega)).mono fun e V' ⟨g, he, _, k', _⟩ => ?_
    rw [eQ] at he
    exact ⟨g, he, Rx.step h1 h2 h3 k'⟩
  have c21 : ∀ V, Rx w w13 b T13 S V → Calls Try.prog 21 #[.pointer (some ⟨b, 0, none⟩)] V fun e V' => e = .returned (.bool true) ∧ Rx w w13 b T13 S V' := fun V k => by
    have KV := kRx V k
    obtain ⟨T', h1, h2, h3⟩ := k
    refine (ow_dead h1 KV).mono fun e V' ⟨he, k'⟩ => ?_
    rw [eD] at he
    exact ⟨he, Rx.step h1 h2 h3 k'⟩
  have hS : ∀ V, Rx w w13 b T13 S V → V.cell? ⟨B, 1, none⟩ = some (.int .i64 at_) ∧ V.cell? ⟨B, 2, none⟩ = some (.int .u8 (data : Int)) ∧ V.cell? ⟨B, 3, none⟩ = some (.bool odd) := fun V ⟨_, _, q, _⟩ => ⟨q.held a1 hB13, q.held a2 hB13, q.held a3 hB13⟩
  have hr0 : Rx w w13 b T13 S w13.drew := x13.kp (Kp.refl w13).drew
  clear x13 eW eR eF eQ eD
  go_wp2_with fail
  go_region_held3 (fun V => V.cell? ⟨B, 1, none⟩ = some (.int .i64 at_) ∧ V.cell? ⟨B, 2, none⟩ = some (.int .u8 (data : Int)) ∧ V.cell? ⟨B, 3, none⟩ = some (.bool odd)) (exact hS _ (by assumption)) (first
    | (go_at_call 15; refine (c15 _ _ (by assumption)).mono ?_; rintro e wM ⟨rfl, hrM⟩)
    | (go_at_call 14; refine (c14 _ _ (by assumption)).mono ?_; rintro e wM ⟨rfl, hrM⟩)
    | (go_at_call 16; refine (c16 _ (by assumption)).mono ?_; rintro e wM ⟨rfl, hrM⟩)
    | (go_at_call 20; refine (c20 _ _ (by assumption)).mono ?_; rintro e wM ⟨rfl, hrM⟩)
    | (go_at_call 18; refine (c18 _ (by assumption)).mono ?_; rintro e wM ⟨g, rfl, hrM⟩)
    | (go_at_call 21; refine (c21 _ (by assumption)).mono ?_; rintro e wM ⟨rfl, hrM⟩))
  have kM := kRx _ hrM
  obtain ⟨TM, oM, _, _⟩ := hrM
  rw [HS0.out] at oM
  clear c14 c15 c16 c18 c20 c21 hS hr0 kRx HX13 a1 a2 a3
  go_wp2_with fail
  rw [rounds_succ]
  go_wp2_with fail
  refine (nil_fail _).mono ?_
  rintro e w14 ⟨rfl, rfl⟩
  go_wp2_with fail
  refine (nil_replace _).mono ?_
  rintro e w15 ⟨rfl, rfl⟩
  go_wp2_with fail
  refine (ow_replace oM kM).mono ?_
  rintro e w16 ⟨rfl, m16⟩
  have K16 := m16.kp oM kM
  obtain ⟨T16, o16, _, _⟩ := m16
  rw [show rp ⟨[z64, z64, z64, z64], [z64, z64, z64, z64], [], true, up (fun _ => 0) 1⟩ = ⟨[z64, z64, z64, z64], [z64, z64, z64, z64], [], false, up (up (fun _ => 0) 1) 3⟩ from rfl] at o16
  clear oM kM
  go_wp2_with fail
  refine (ow_read o16 K16 1).mono ?_
  rintro e w17 ⟨rfl, m17⟩
  have K17 := m17.kp o16 K16
  obtain ⟨T17, o17, _, _⟩ := m17
  rw [show rcE ⟨[z64, z64, z64, z64], [z64, z64, z64, z64], [], false, up (up (fun _ => 0) 1) 3⟩ 1 = 0 from rfl, show rdS ⟨[z64, z64, z64, z64], [z64, z64, z64, z64], [], false, up (up (fun _ => 0) 1) 3⟩ 1 = z64 from rfl]
  rw [show rd ⟨[z64, z64, z64, z64], [z64, z64, z64, z64], [], false, up (up (fun _ => 0) 1) 3⟩ 1 = ⟨[z64, z64, z64, z64], [z64, z64, z64, z64], [], false, up (up (up (fun _ => 0) 1) 3) 0⟩ from rfl] at o17
  clear o16 K16
  go_wp2_with fail
  refine (wakes_any _).mono ?_
  rintro e w18 ⟨rfl, k18⟩
  have o18 := o17.kp k18
  have K18 := K17.trans k18
  clear o17 K17 k18
  go_wp2_with fail
  refine (nil_size _).mono ?_
  rintro e w19 ⟨rfl, rfl⟩
  go_wp2_with fail
  refine (nil_counts _).mono ?_
  rintro e w20 ⟨rfl, k20⟩
  have o20 := o18.kp k20
  have K20 := K18.trans k20
  clear o18 K18 k20
  have hmk : ∀ W : World, (Instr.makeSlice 62 (.int .i64 64) (.int .i64 64)).run Try.prog W = .ok (.slice (some ⟨W.heap.size, 0, none⟩) 64 64) (W.alloc (.cells (madeCells #[.int .u8 0] 64) 5)) := fun W => run_make_row' (P := Try.prog) 62 5 (.int .u8 0) 1 Try.underlying62 info_u8 rfl .i64 .i64 64 (by omega) (by omega) W
  have hcv : (convert 62 9 (.slice (some ⟨w20.heap.size, 0, none⟩) 64 64)).run Try.prog (w20.alloc (.cells (madeCells #[.int .u8 0] 64) 5)) = .ok (.string z64) (w20.alloc (.cells (madeCells #[.int .u8 0] 64) 5)) := conv_of _ _ 64 (fun _ => 0) (fun i hi => by rw [World.cell?_alloc_at _ _ _ _ rfl]; simp [madeCells, hi, Nat.mod_one])
  have kZ : Kp w20 (w20.alloc (.cells (madeCells #[.int .u8 0] 64) 5)) := (Kp.refl w20).alloc _
  have o21 := o20.kp kZ
  have K21 := K20.trans kZ
  go_wp2_with fail
  refine (ow_dead o21 K21).mono ?_
  rintro e w22 ⟨rfl, m22⟩
  have K22 := m22.kp o21 K21
  obtain ⟨T22, o22, _, _⟩ := m22
  clear o20 K20 o21 K21 hmk hcv kZ
  go_wp2_with fail
  refine (ow_counts o22).mono ?_
  rintro e w23 ⟨rfl, k23⟩
  have K23 := K22.trans k23
  rw [show cV (up (up (up (fun _ => 0) 1) 3) 0) = .agg #[.int .i64 1, .int .i64 1, .int .i64 0, .int .i64 1] from by simp [cV, up, wrap64]]
  clear K22 o22 k23
  go_wp2
  go_ret
  exact ⟨rfl, K23⟩
theorem walk (w : World) (a0 : AC) (w0 : AOk w a0) :
    Calls Try.prog 6 #[aV a0] w fun e w' => e = .returned (.bool true) ∧ Kp w w' := by
  exact walkN w a0 w0

set_option maxRecDepth 100000 in
theorem lifted (os : Os) (started : os.Started) (H : Type) (enc : TypeId × Value → H) :
    ReturnsInHanded {} Try.checked os 6 .any (Rows.memberDeadSpec.pre6 enc Try.prog Try.f6 Rows.memberDeadRow.domain false) (Rows.memberDeadSpec.post enc Try.prog Try.f6 false true false false) := by
  refine returnsInHanded_of_change (C := Try.checked) own started (by kernel_rfl) Try.func6
    (ChangeSpec.witness6 (enc := enc) (C := Try.checked) false ⟨#[], #[.agg #[.int .i64 0, .int .i64 0, .int .u8 0, .bool false, .slice none 0 0]], []⟩ 8 (by kernel_rfl) (by kernel_rfl) (by kernel_rfl) (by kernel_rfl)) ?_
  intro W base args ds gs before hval0 hW hcnd _
  have hval : ∀ (j : Nat) t v, Try.f6.params[j]? = some t → args[j]? = some v → Value.okWide Try.prog W .any base t v := hval0
  have hW' := hW
  have hlt := hW.lt
  obtain ⟨p, q, hA0, hV, rfl, hfz, hnd⟩ := hW
  have hA : DataW.TrodAll enc Try.prog W 0 (fun _ => true) true Try.f6.params.toList args.toList ds p := hA0
  have hAk := hA
  rw [Try.params6] at hA hval
  obtain ⟨v0, vs0, d0, ds0, p0, q0, hargs, rfl, rfl, h0, r0⟩ := trodAll_cons hA
  obtain ⟨rfl, rfl, rfl⟩ := trodAll_nil r0
  obtain rfl : args = #[v0] := by cases args; simp_all
  obtain ⟨rfl, rfl⟩ := trodVars_none hV
  obtain ⟨a0, rfl, w0⟩ := open_act (hval 0 31 v0 rfl rfl) h0
  clear hA0 hval0
  simp only [List.append_nil] at hW' hAk hlt
  refine (walk W a0 w0).mono fun e W' ⟨he, hg⟩ => ?_
  subst he
  exact ⟨_, rfl, post_kp (pv := []) hW' (fun _ _ _ => (trodAll_cons_mk (shut_bool Try.underlying4 _) trodAll_mk0)) (fun sp hsp => trodAll_stays laidOut (by rw [Try.params6]; exact of_decide_eq_true (by kernel_rfl)) hAk (fun x hx => Below.same hg (hlt x hx)) hsp) (fun _ _ => rfl) (by simp) hg⟩

theorem over : Rows.memberDeadRow.holds Try.pinned (OpenSpec.ofChange Rows.memberDeadSpec) :=
  OpenClaim.holds_of_wide 6 Try.f6 rfl rfl rfl rfl rfl rfl rfl ⟨rfl, rfl, rfl, rfl, rfl⟩ rfl rfl rfl rfl rfl (by kernel_rfl) Try.func6 (by kernel_rfl)
    (of_decide_eq_true (by kernel_rfl)) (by unfold Func.isWrapper; first | (rw [if_pos (by decide +kernel)]; kernel_rfl) | (rw [if_neg (by decide +kernel)]; exact ⟨rfl, rfl⟩))
    (fun os started H enc _ => lifted os started H enc)

end Go.Proofs.Ytohakbhjkhhcaaa.memberDead
namespace Go.Proofs.Ytohakbhjkhhcaaa
theorem memberDead_holds : Rows.MemberDeadSaid := memberDead.over
end Go.Proofs.Ytohakbhjkhhcaaa
