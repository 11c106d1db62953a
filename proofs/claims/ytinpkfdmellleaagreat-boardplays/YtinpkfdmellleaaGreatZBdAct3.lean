/-
  A contract of the laws' act: a member's own end. Conditions: that the pair lies in memory.
-/
import Derived.Test.YtinpkfdmellleaaGreatZBdAct2
namespace Go.Proofs.YtinpkfdmellleaaGreat
open Go.RowKit Plain
set_option linter.unusedVariables false

theorem nomem {w0 w : World} {b : Nat} {T : List Nat} {B : BS} (h : Bw w0 w b T B) {i : Int} (hi : fdE B i ≠ 0) : ∀ U, Kp w U → Calls Tryz.prog 16 #[.pointer (some ⟨b, 0, none⟩), .int .i64 i] U fun e U' => e = .returned (.pointer none) ∧ Kp w U' := fun U k => (bw_nomember (OL.bw.sp h (k.sp []) (fun _ _ h => by cases h)) hi).mono fun e U' ⟨he, hu⟩ => ⟨he, by rw [hu]; exact k⟩

set_option maxRecDepth 100000 in
set_option maxHeartbeats 8000000 in
theorem act_end0 {w0 w : World} {v b r : Nat} {P R : List Nat} {B : BS} {s1 s3 : Value} (h : Pb w0 w v b r P R B B s1 s3) (d m n : Int) (o : Bool) (va : Option Addr) (vn vc : Nat) (hd : d % 8 = 6) (hno : o = false ∨ fdE B m ≠ 0) :
    Calls Tryz.prog 11 #[.pointer (some ⟨v, 0, none⟩), .agg #[.int .i64 d, .int .i64 m, .int .i64 n, .bool o, .slice va vn vc]] w fun e w' => e = .returned (.bool true) ∧ Kp w w' := by
  have hms := mask7b d
  have AC := Ac.new w d m n o va vn vc
  have kW : Kp w (w.alloc (.cells #[.int .i64 d, .int .i64 m, .int .i64 n, .bool o, .slice va vn vc] 30)) := (Kp.refl w).alloc _
  obtain ⟨W, hW⟩ : ∃ W, W = w.alloc (.cells #[.int .i64 d, .int .i64 m, .int .i64 n, .bool o, .slice va vn vc] 30) := ⟨_, rfl⟩
  rw [← hW] at AC kW
  have HW := hid hW
  have P1 := hid (h.kp kW)
  have HkW := hid kW
  have HAC := hid AC
  have hr0 : Kp W W.drew := (Kp.refl W).drew
  have c0 := P1.out.c0
  rw [hd] at hms
  clear hW h kW
  cases o with
  | false =>
    have hS1 : ∀ U, Kp W U → U.cell? ⟨v, 0, none⟩ = some (.pointer (some ⟨b, 0, none⟩)) ∧ U.cell? ⟨w.heap.size, 1, none⟩ = some (.int .i64 m) ∧ U.cell? ⟨w.heap.size, 3, none⟩ = some (.bool false) := fun U k => ⟨k.held P1.out.c0, k.held HAC.out.f1, k.held HAC.out.f3⟩
    obtain ⟨f0, f1, f2, f3, f4⟩ := AC
    clear hno
    go_enter Tryz.func11, Tryz.ntmps11
    go_upto_region 1 with fail
    rw [← HW.out]
    clear HW
    go_wp2_with fail
    go_quiet (fail)
    go_wp2
    go_ret
    exact ⟨rfl, HkW.out.drewN _⟩
  | true =>
    have hf : fdE B m ≠ 0 := hno.elim (fun h => by cases h) id
    have hM := nomem P1.out.hB hf
    have hS1 : ∀ U, Kp W U → U.cell? ⟨v, 0, none⟩ = some (.pointer (some ⟨b, 0, none⟩)) ∧ U.cell? ⟨w.heap.size, 1, none⟩ = some (.int .i64 m) ∧ U.cell? ⟨w.heap.size, 3, none⟩ = some (.bool true) := fun U k => ⟨k.held P1.out.c0, k.held HAC.out.f1, k.held HAC.out.f3⟩
    obtain ⟨f0, f1, f2, f3, f4⟩ := AC
    clear hno hf
    go_enter Tryz.func11, Tryz.ntmps11
    go_upto_region 1 with fail
    rw [← HW.out]
    clear HW
    go_wp2_with fail
    go_region_held3 (fun U => U.cell? ⟨v, 0, none⟩ = some (.pointer (some ⟨b, 0, none⟩)) ∧ U.cell? ⟨w.heap.size, 1, none⟩ = some (.int .i64 m) ∧ U.cell? ⟨w.heap.size, 3, none⟩ = some (.bool true)) (exact hS1 _ (by assumption)) (first
      | (go_at_call 16; refine (hM _ (by assumption)).mono ?_; rintro e w1 ⟨rfl, k1⟩))
    have K1 := hid k1
    clear hM hS1 hr0 k1
    go_wp2
    go_ret
    exact ⟨rfl, HkW.out.trans K1.out⟩

set_option maxRecDepth 100000 in
set_option maxHeartbeats 8000000 in
theorem act_end1 {w0 w : World} {v b r : Nat} {P R : List Nat} {B : BS} {s1 s3 : Value} (h : Pb w0 w v b r P R B B s1 s3) (K : Kp w0 w) (d n : Int) (j : Nat) (va : Option Addr) (vn vc : Nat) (hd : d % 8 = 6) (hf : fdE B (j : Int) = 0) :
    Calls Tryz.prog 11 #[.pointer (some ⟨v, 0, none⟩), .agg #[.int .i64 d, .int .i64 (j : Int), .int .i64 n, .bool true, .slice va vn vc]] w fun e w' => e = .returned (.bool true) ∧ Mv w0 w w' b r P R (put B (j : Int) (fa (bm B (j : Int)))) (put B (j : Int) (fa (bm B (j : Int)))) := by
  have hms := mask7b d
  have AC := Ac.new w d j n true va vn vc
  have kW : Kp w (w.alloc (.cells #[.int .i64 d, .int .i64 (j : Int), .int .i64 n, .bool true, .slice va vn vc] 30)) := (Kp.refl w).alloc _
  obtain ⟨W, hW⟩ : ∃ W, W = w.alloc (.cells #[.int .i64 d, .int .i64 (j : Int), .int .i64 n, .bool true, .slice va vn vc] 30) := ⟨_, rfl⟩
  rw [← hW] at AC kW
  have HW := hid hW
  have P1 := hid (h.kp kW)
  have HkW := hid kW
  have HAC := hid AC
  have HK := hid (K.trans kW)
  have nX : Hid (w.heap.size ∉ P ∧ w.heap.size ∉ R) := ⟨fun hm => by have := OL.bw.low h.hB _ hm; omega, fun hm => by have := OL.dw.low h.hD _ hm; omega⟩
  have Hf := hid hf
  obtain ⟨B', hB'⟩ : ∃ B', B' = put B (j : Int) (fa (bm B (j : Int))) := ⟨_, rfl⟩
  rw [← hB']
  have HEB := hid hB'
  obtain ⟨m_, X, F, hP, hbx⟩ := P1.out.hB
  have HBX := hid hbx
  obtain ⟨xj, hxj⟩ : ∃ x, x = X.getD j 0 := ⟨_, rfl⟩
  have hM : ∀ U, Kp W U → Calls Tryz.prog 16 #[.pointer (some ⟨b, 0, none⟩), .int .i64 (j : Int)] U fun e U' => e = .returned (.pointer (some ⟨xj, 0, none⟩)) ∧ Kp W U' := fun U k => (bx_member (HBX.out.sp (k.sp []) (fun _ _ h => by cases h)) Hf.out).mono fun e U' ⟨he, hu⟩ => ⟨by rw [he, hxj, Int.toNat_natCast], by rw [hu]; exact k⟩
  have hFl : ∀ U, Kp W U → Calls Tryz.prog 17 #[.pointer (some ⟨xj, 0, none⟩)] U fun e U' => e = .returned (.tuple #[]) ∧ Nz Bw w0 W U' b P (B') := fun U k => by
    have h1 := bx_fail (HBX.out.sp (k.sp []) (fun _ _ h => by cases h)) (HK.out.trans k) Hf.out
    rw [Int.toNat_natCast, ← hxj, ← hB'] at h1
    rw [hP]
    exact h1.mono fun e U' ⟨he, hz⟩ => ⟨he, hz.off k⟩
  have hS1 : ∀ U, Kp W U → U.cell? ⟨v, 0, none⟩ = some (.pointer (some ⟨b, 0, none⟩)) ∧ U.cell? ⟨w.heap.size, 1, none⟩ = some (.int .i64 (j : Int)) ∧ U.cell? ⟨w.heap.size, 3, none⟩ = some (.bool true) := fun U k => ⟨k.held P1.out.c0, k.held HAC.out.f1, k.held HAC.out.f3⟩
  have hS2 : ∀ U, Nz Bw w0 W U b P (B') → U.cell? ⟨v, 0, none⟩ = some (.pointer (some ⟨b, 0, none⟩)) ∧ U.cell? ⟨w.heap.size, 1, none⟩ = some (.int .i64 (j : Int)) ∧ U.cell? ⟨w.heap.size, 3, none⟩ = some (.bool true) := fun U ⟨_, _, k, _⟩ => ⟨k.held P1.out.c0 P1.out.nv, k.held HAC.out.f1 nX.out.1, k.held HAC.out.f3 nX.out.1⟩
  have hr0 : Kp W W.drew := (Kp.refl W).drew
  have c0 := P1.out.c0
  obtain ⟨f0, f1, f2, f3, f4⟩ := AC
  rw [hd] at hms
  clear hW h K kW hP hbx hf hxj hB'
  go_enter Tryz.func11, Tryz.ntmps11
  go_upto_region 1 with fail
  rw [← HW.out]
  clear HW
  go_wp2_with fail
  go_region_held3 (fun U => U.cell? ⟨v, 0, none⟩ = some (.pointer (some ⟨b, 0, none⟩)) ∧ U.cell? ⟨w.heap.size, 1, none⟩ = some (.int .i64 (j : Int)) ∧ U.cell? ⟨w.heap.size, 3, none⟩ = some (.bool true)) (exact hS1 _ (by assumption)) (first
    | (go_at_call 16; refine (hM _ (by assumption)).mono ?_; rintro e w1 ⟨rfl, k1⟩))
  have hr1 : Kp W w1.drew := k1.drew
  obtain ⟨c0, f1, f3⟩ := hS1 _ k1
  go_wp2_with fail
  go_region_held3 (fun U => U.cell? ⟨v, 0, none⟩ = some (.pointer (some ⟨b, 0, none⟩)) ∧ U.cell? ⟨w.heap.size, 1, none⟩ = some (.int .i64 (j : Int)) ∧ U.cell? ⟨w.heap.size, 3, none⟩ = some (.bool true)) (first | exact hS1 _ (by assumption) | exact hS2 _ (by assumption)) (first
    | (go_at_call 16; refine (hM _ (by assumption)).mono ?_; rintro e w2 ⟨rfl, k2⟩)
    | (go_at_call 17; refine (hFl _ (by assumption)).mono ?_; rintro e w3 ⟨rfl, n1⟩))
  have N1 := hid n1
  obtain ⟨P2, p2, s2, _⟩ := P1.out.one n1
  have HP2 := hid p2
  have HA2 := hid (HAC.out.sp s2 nX.out.1)
  have HK3 : Hid (Kp w0 w3) := n1.below OL.bw P1.out.hB HK.out
  obtain ⟨m2, cap, X2, F2, hR, hrx⟩ := HP2.out.hD
  obtain ⟨Q, q1, q2, q3⟩ := hrx.at Hf.out
  obtain ⟨i0, i1, hlt, _⟩ := bm_mem Hf.out
  rw [Int.toNat_natCast] at q2 q3 hlt
  obtain ⟨zz, hzz⟩ : ∃ z, z = X2.getD j 0 := ⟨_, rfl⟩
  have D0 := hid hrx.c0
  have D1 := hid (hrx.ar j hlt)
  rw [← hzz] at D1 q2 q3
  have hcap : B.ms.length ≤ cap ∧ cap ≤ 9223372036854775807 := ⟨hrx.k1, hrx.k2⟩
  have hjN : j < B.ms.length := hlt
  obtain ⟨NN, hNN⟩ : ∃ n, n = B.ms.length := ⟨_, rfl⟩
  rw [← hNN] at D0 hcap hjN
  obtain ⟨hc1, hc2⟩ := hcap
  have Q2 := hid q2
  have Q3 := hid q3
  have nQ : Hid (v ∉ Q ∧ w.heap.size ∉ Q ∧ r ∉ Q ∧ m2 ∉ Q) := by
    have h9 := HP2.out.nw
    have h8 := nX.out.2
    rw [hR] at h9 h8
    exact ⟨fun hm => h9 (List.mem_cons_of_mem _ (List.mem_cons_of_mem _ (q1 _ hm))), fun hm => h8 (List.mem_cons_of_mem _ (List.mem_cons_of_mem _ (q1 _ hm))), fun hm => hrx.n1 (q1 _ hm), fun hm => hrx.n2 (q1 _ hm)⟩
  have HR := hid hR
  have c18 : ∀ U, Kp w3 U → Calls Tryz.prog 18 #[.pointer (some ⟨zz, 0, none⟩)] U fun e U' => e = .returned (.tuple #[]) ∧ Nz Rw w0 w3 U' zz Q (fa (bm B (j : Int))) := fun U k => (rw_fail (OL.rw.sp Q2.out (k.sp []) (fun _ _ h => by cases h)) (HK3.out.trans k)).mono fun e U' ⟨he, hz⟩ => ⟨he, Nz.from k hz⟩
  have hT1 : ∀ U, Kp w3 U → U.cell? ⟨v, 2, none⟩ = some (.pointer (some ⟨r, 0, none⟩)) ∧ U.cell? ⟨w.heap.size, 1, none⟩ = some (.int .i64 (j : Int)) ∧ U.cell? ⟨r, 0, none⟩ = some (.slice (some ⟨m2, 0, none⟩) NN cap) ∧ U.cell? ⟨m2, j, none⟩ = some (.pointer (some ⟨zz, 0, none⟩)) := fun U k => ⟨k.held HP2.out.c2, k.held HA2.out.f1, k.held D0.out, k.held D1.out⟩
  have hT2 : ∀ U, Nz Rw w0 w3 U zz Q (fa (bm B (j : Int))) → U.cell? ⟨v, 2, none⟩ = some (.pointer (some ⟨r, 0, none⟩)) ∧ U.cell? ⟨w.heap.size, 1, none⟩ = some (.int .i64 (j : Int)) ∧ U.cell? ⟨r, 0, none⟩ = some (.slice (some ⟨m2, 0, none⟩) NN cap) ∧ U.cell? ⟨m2, j, none⟩ = some (.pointer (some ⟨zz, 0, none⟩)) := fun U ⟨_, _, k, _⟩ => ⟨k.held HP2.out.c2 nQ.out.1, k.held HA2.out.f1 nQ.out.2.1, k.held D0.out nQ.out.2.2.1, k.held D1.out nQ.out.2.2.2⟩
  have hr2 : Kp w3 w3.drew := (Kp.refl w3).drew
  have HB' : Hid (∀ U, Nz Rw w0 w3 U zz Q (fa (bm B (j : Int))) → Nz Dw w0 w3 U r R B') := fun U hz => by
    rw [HR.out, HEB.out]
    exact Q3.out U _ hz Right.fa (Nat.zero_le _)
  obtain ⟨FB, hFB⟩ : ∃ f, f = fa (bm B (j : Int)) := ⟨_, rfl⟩
  rw [← hFB] at c18 hT2 HB'
  clear hM hFl hS1 hS2 hr0 hr1 n1 p2 s2 q1 q2 q3 hrx hR hlt hzz hNN hFB f0 f1 f2 f3 f4 c0 HBX
  have c2 := HP2.out.c2
  obtain ⟨f0, f1, f2, f3, f4⟩ := HA2.out
  have d0 := D0.out
  have d1 := D1.out
  go_wp2_with fail
  go_region_held3 (fun U => U.cell? ⟨v, 2, none⟩ = some (.pointer (some ⟨r, 0, none⟩)) ∧ U.cell? ⟨w.heap.size, 1, none⟩ = some (.int .i64 (j : Int)) ∧ U.cell? ⟨r, 0, none⟩ = some (.slice (some ⟨m2, 0, none⟩) NN cap) ∧ U.cell? ⟨m2, j, none⟩ = some (.pointer (some ⟨zz, 0, none⟩))) (first | exact hT1 _ (by assumption) | exact hT2 _ (by assumption)) (first
    | (go_at_call 18; refine (c18 _ (by assumption)).mono ?_; rintro e w4 ⟨rfl, n4⟩))
  have N4 := hid (HB'.out _ n4)
  clear c18 hT1 hT2 hr2 n4
  go_wp2
  go_ret
  exact ⟨rfl, _, N1.out.off HkW.out, N4.out⟩

end Go.Proofs.YtinpkfdmellleaaGreat
