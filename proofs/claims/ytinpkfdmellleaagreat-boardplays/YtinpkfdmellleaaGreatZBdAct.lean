/-
  Contracts of the laws' act at its changes: Fail, Replace, Advance of both boards. Conditions: that the pair lies in memory, both boards in one state, whose Epoch isn't the last one.
-/
import Derived.Test.YtinpkfdmellleaaGreatZBdRAd
import Derived.Test.YtinpkfdmellleaaGreatZBdRRp
import Derived.Test.YtinpkfdmellleaaGreatZBdRFl
import Derived.Test.YtinpkfdmellleaaGreatZBeg
namespace Go.Proofs.YtinpkfdmellleaaGreat
open Go.RowKit Plain
set_option linter.unusedVariables false

theorem mask7b (n : Int) : bits .and .i64 n 7 = n % 8 := by
  have h : (BitVec.ofInt 64 7).toNat = 2 ^ 3 - 1 := by decide
  have key : (BitVec.ofInt 64 n &&& BitVec.ofInt 64 7).toNat = (n % ((2 ^ 64 : Nat) : Int)).toNat % 2 ^ 3 := by
    rw [BitVec.toNat_and, BitVec.toNat_ofInt, h, Nat.and_two_pow_sub_one_eq_mod]
  show IntKind.i64.wrap ((BitVec.ofInt 64 n &&& BitVec.ofInt 64 7).toNat : Nat) = n % 8
  rw [key, IntKind.wrap_i64]
  omega
theorem Kl.off {w0 w w' w'' : World} {x b : Nat} {T A : List Nat} {K : KS} (k : Kp w w') (h : Kl w0 w' w'' x b T K A) : Kl w0 w w'' x b T K A := by
  obtain ⟨T', s, v, h1, h2, h3, h4⟩ := h
  exact ⟨T', s, v, h1, (k.sp _).trans h2, fun t ht => (h3 t ht).imp id (fun h => Nat.le_trans k.size h), h4.mono k.size (fun q h => .inl h)⟩
/-- the state behind a change. -/
def acK (K : KS) (d m n : Int) : KS := if d % 8 = 0 then bfK K m else if d % 8 = 1 then brK K m else baK K m n

set_option maxRecDepth 100000 in
set_option maxHeartbeats 4000000 in
theorem act_fail {w0 w : World} {v x b r y : Nat} {T R : List Nat} {K : KS} {sv mv su mu : Value} (h : Pd w0 w v x b r y T R K K sv mv su mu) (hK : Kp w0 w) (ok : Kok K) (d m n : Int) (o : Bool) (va : Option Addr) (vn vc : Nat) (hd : d % 8 = 0) : Calls Tryz.prog 11 #[.pointer (some ⟨v, 0, none⟩), .agg #[.int .i64 d, .int .i64 m, .int .i64 n, .bool o, .slice va vn vc]] w fun e w' => e = .returned (.bool true) ∧ (∃ T' R' sv' mv' su' mu', Pd w0 w' v x b r y T' R' (bfK K m) (bfK K m) sv' mv' su' mu') ∧ Kp w0 w' := by
  have hms := mask7b d
  have hvl : Hid (v < w.heap.size) := h.vl
  have HTl : Hid (∀ t, t ∈ x :: T → t < w.heap.size) := fun t ht => by
    rcases List.mem_cons.1 ht with e | e
    · rw [e]; exact h.kx.hx
    · exact OL.bw.low h.kx.bay t e
  have HRl : Hid (∀ t, t ∈ y :: R → t < w.heap.size) := fun t ht => by
    rcases List.mem_cons.1 ht with e | e
    · rw [e]; exact h.ky.hx
    · exact OL.dw.low h.ky.bay t e
  obtain ⟨W, hW⟩ : ∃ W, W = w.alloc (.cells #[.int .i64 d, .int .i64 m, .int .i64 n, .bool o, .slice va vn vc] 30) := ⟨_, rfl⟩
  have kW : Kp w W := by rw [hW]; exact (Kp.refl w).alloc _
  obtain ⟨f0, f1, f2⟩ : W.cell? ⟨w.heap.size, 0, none⟩ = some (.int .i64 d) ∧ W.cell? ⟨w.heap.size, 1, none⟩ = some (.int .i64 m) ∧ W.cell? ⟨w.heap.size, 2, none⟩ = some (.int .i64 n) := by
    refine ⟨?_, ?_, ?_⟩ <;> (rw [hW, World.cell?_alloc_at _ _ _ _ rfl]; rfl)
  have HW := hid hW
  have P := hid (h.kp kW)
  have KW : Hid (Kp w0 W) := hK.trans kW
  have HOk := hid ok
  clear hW kW h hK ok
  have nB1 : Hid (w.heap.size ∉ x :: T) := fun hm => by have := HTl.out _ hm; omega
  have nB2 : Hid (w.heap.size ∉ y :: R) := fun hm => by have := HRl.out _ hm; omega
  have c3 := P.out.c3
  have hF1 : ∀ U, Kp W U → Calls Tryz.prog 33 #[.pointer (some ⟨x, 0, none⟩), .int .i64 m] U fun e U' => e = .returned (.int .i64 (bfE K m)) ∧ Kl w0 W U' x b T (bfK K m) (lbs sv mv) := fun U q => (bfail_l (P.out.kx.kp q) (KW.out.trans q) HOk.out m).mono fun e U' ⟨he, hz⟩ => ⟨he, hz.off q⟩
  have hF2 : ∀ U, Kl w0 W U x b T (bfK K m) (lbs sv mv) → Calls Tryz.prog 43 #[.pointer (some ⟨y, 0, none⟩), .int .i64 m] U fun e U' => e = .returned (.int .i64 (bfE K m)) ∧ Kl w0 W U x b T (bfK K m) (lbs sv mv) ∧ Yl w0 U U' y r R (bfK K m) (lbs su mu) := fun U hz => by
    have hKU : Kp w0 U := hz.kz.below P.out.kx KW.out
    obtain ⟨T', s', m', pU⟩ := P.out.one hz
    exact (rbfail_l pU.ky hKU HOk.out m).mono fun e U' ⟨he, hn⟩ => ⟨he, hz, hn⟩
  have hSS : ∀ U, Kp W U → U.cell? ⟨v, 1, none⟩ = some (.pointer (some ⟨x, 0, none⟩)) ∧ U.cell? ⟨v, 3, none⟩ = some (.pointer (some ⟨y, 0, none⟩)) ∧ U.cell? ⟨w.heap.size, 1, none⟩ = some (.int .i64 m) ∧ U.cell? ⟨w.heap.size, 2, none⟩ = some (.int .i64 n) := fun U q => ⟨q.held P.out.c1, q.held P.out.c3, q.held f1, q.held f2⟩
  have hSZ : ∀ U, Kl w0 W U x b T (bfK K m) (lbs sv mv) → U.cell? ⟨v, 1, none⟩ = some (.pointer (some ⟨x, 0, none⟩)) ∧ U.cell? ⟨v, 3, none⟩ = some (.pointer (some ⟨y, 0, none⟩)) ∧ U.cell? ⟨w.heap.size, 1, none⟩ = some (.int .i64 m) ∧ U.cell? ⟨w.heap.size, 2, none⟩ = some (.int .i64 n) := fun U ⟨_, _, _, _, q, _, _⟩ => ⟨q.held P.out.c1 P.out.nv, q.held P.out.c3 P.out.nv, q.held f1 nB1.out, q.held f2 nB1.out⟩
  have hSY : ∀ U U', Kl w0 W U x b T (bfK K m) (lbs sv mv) → Yl w0 U U' y r R (bfK K m) (lbs su mu) → U'.cell? ⟨v, 1, none⟩ = some (.pointer (some ⟨x, 0, none⟩)) ∧ U'.cell? ⟨v, 3, none⟩ = some (.pointer (some ⟨y, 0, none⟩)) ∧ U'.cell? ⟨w.heap.size, 1, none⟩ = some (.int .i64 m) ∧ U'.cell? ⟨w.heap.size, 2, none⟩ = some (.int .i64 n) := fun U U' ⟨_, _, _, _, q, _, _⟩ ⟨_, _, _, _, p, _, _⟩ => ⟨p.held (q.held P.out.c1 P.out.nv) P.out.nw, p.held (q.held P.out.c3 P.out.nv) P.out.nw, p.held (q.held f1 nB1.out) nB2.out, p.held (q.held f2 nB1.out) nB2.out⟩
  obtain ⟨E, hE⟩ : ∃ E, E = bfE K m := ⟨_, rfl⟩
  obtain ⟨KK, hKK⟩ : ∃ E, E = bfK K m := ⟨_, rfl⟩
  rw [← hE, ← hKK] at hF1 hF2
  rw [← hKK] at hSZ hSY ⊢
  have hr0 : Kp W W.drew := (Kp.refl W).drew
  have hEE : (E == E) = true := by simp
  clear hE hKK HOk
  rw [hd] at hms
  go_enter Tryz.func11, Tryz.ntmps11
  go_upto_region 1 with fail
  rw [← HW.out]
  clear HW
  go_wp2_with fail
  go_region_held3 (fun U => U.cell? ⟨v, 1, none⟩ = some (.pointer (some ⟨x, 0, none⟩)) ∧ U.cell? ⟨v, 3, none⟩ = some (.pointer (some ⟨y, 0, none⟩)) ∧ U.cell? ⟨w.heap.size, 1, none⟩ = some (.int .i64 m) ∧ U.cell? ⟨w.heap.size, 2, none⟩ = some (.int .i64 n)) (first | exact hSS _ (by assumption) | exact hSY _ _ (by assumption) (by assumption) | exact hSZ _ (by assumption)) (first | (go_at_call 33; refine (hF1 _ (by assumption)).mono ?_; rintro e wf ⟨rfl, zf⟩) | (go_at_call 43; refine (hF2 _ (by assumption)).mono ?_; rintro e wg ⟨rfl, zf2, zg⟩))
  have KF : Hid (Kp w0 wf) := zf.kz.below P.out.kx KW.out
  obtain ⟨T1, s1, m1, p1⟩ := P.out.one zf
  have KG : Hid (Kp w0 wg) := zg.yz.below p1.ky KF.out
  obtain ⟨R1, s2, m2, p2⟩ := p1.two zg
  have P2 := hid p2
  clear hF1 hF2 hSS hSZ hSY hr0 zf zf2 zg p1 p2 f0 f1 f2 c3
  go_wp2
  go_ret
  exact ⟨rfl, ⟨T1, R1, s1, m1, s2, m2, P2.out⟩, KG.out⟩

set_option maxRecDepth 100000 in
set_option maxHeartbeats 4000000 in
theorem act_replace {w0 w : World} {v x b r y : Nat} {T R : List Nat} {K : KS} {sv mv su mu : Value} (h : Pd w0 w v x b r y T R K K sv mv su mu) (hK : Kp w0 w) (ok : Kok K) (d m n : Int) (o : Bool) (va : Option Addr) (vn vc : Nat) (hd : d % 8 = 1) : Calls Tryz.prog 11 #[.pointer (some ⟨v, 0, none⟩), .agg #[.int .i64 d, .int .i64 m, .int .i64 n, .bool o, .slice va vn vc]] w fun e w' => e = .returned (.bool true) ∧ (∃ T' R' sv' mv' su' mu', Pd w0 w' v x b r y T' R' (brK K m) (brK K m) sv' mv' su' mu') ∧ Kp w0 w' := by
  have hms := mask7b d
  have hvl : Hid (v < w.heap.size) := h.vl
  have HTl : Hid (∀ t, t ∈ x :: T → t < w.heap.size) := fun t ht => by
    rcases List.mem_cons.1 ht with e | e
    · rw [e]; exact h.kx.hx
    · exact OL.bw.low h.kx.bay t e
  have HRl : Hid (∀ t, t ∈ y :: R → t < w.heap.size) := fun t ht => by
    rcases List.mem_cons.1 ht with e | e
    · rw [e]; exact h.ky.hx
    · exact OL.dw.low h.ky.bay t e
  obtain ⟨W, hW⟩ : ∃ W, W = w.alloc (.cells #[.int .i64 d, .int .i64 m, .int .i64 n, .bool o, .slice va vn vc] 30) := ⟨_, rfl⟩
  have kW : Kp w W := by rw [hW]; exact (Kp.refl w).alloc _
  obtain ⟨f0, f1, f2⟩ : W.cell? ⟨w.heap.size, 0, none⟩ = some (.int .i64 d) ∧ W.cell? ⟨w.heap.size, 1, none⟩ = some (.int .i64 m) ∧ W.cell? ⟨w.heap.size, 2, none⟩ = some (.int .i64 n) := by
    refine ⟨?_, ?_, ?_⟩ <;> (rw [hW, World.cell?_alloc_at _ _ _ _ rfl]; rfl)
  have HW := hid hW
  have P := hid (h.kp kW)
  have KW : Hid (Kp w0 W) := hK.trans kW
  have HOk := hid ok
  clear hW kW h hK ok
  have nB1 : Hid (w.heap.size ∉ x :: T) := fun hm => by have := HTl.out _ hm; omega
  have nB2 : Hid (w.heap.size ∉ y :: R) := fun hm => by have := HRl.out _ hm; omega
  have c3 := P.out.c3
  have hF1 : ∀ U, Kp W U → Calls Tryz.prog 32 #[.pointer (some ⟨x, 0, none⟩), .int .i64 m] U fun e U' => e = .returned (.int .i64 (brE K m)) ∧ Kl w0 W U' x b T (brK K m) (lbs sv mv) := fun U q => (breplace_l (P.out.kx.kp q) (KW.out.trans q) HOk.out m).mono fun e U' ⟨he, hz⟩ => ⟨he, hz.off q⟩
  have hF2 : ∀ U, Kl w0 W U x b T (brK K m) (lbs sv mv) → Calls Tryz.prog 44 #[.pointer (some ⟨y, 0, none⟩), .int .i64 m] U fun e U' => e = .returned (.int .i64 (brE K m)) ∧ Kl w0 W U x b T (brK K m) (lbs sv mv) ∧ Yl w0 U U' y r R (brK K m) (lbs su mu) := fun U hz => by
    have hKU : Kp w0 U := hz.kz.below P.out.kx KW.out
    obtain ⟨T', s', m', pU⟩ := P.out.one hz
    exact (rbreplace_l pU.ky hKU HOk.out m).mono fun e U' ⟨he, hn⟩ => ⟨he, hz, hn⟩
  have hSS : ∀ U, Kp W U → U.cell? ⟨v, 1, none⟩ = some (.pointer (some ⟨x, 0, none⟩)) ∧ U.cell? ⟨v, 3, none⟩ = some (.pointer (some ⟨y, 0, none⟩)) ∧ U.cell? ⟨w.heap.size, 1, none⟩ = some (.int .i64 m) ∧ U.cell? ⟨w.heap.size, 2, none⟩ = some (.int .i64 n) := fun U q => ⟨q.held P.out.c1, q.held P.out.c3, q.held f1, q.held f2⟩
  have hSZ : ∀ U, Kl w0 W U x b T (brK K m) (lbs sv mv) → U.cell? ⟨v, 1, none⟩ = some (.pointer (some ⟨x, 0, none⟩)) ∧ U.cell? ⟨v, 3, none⟩ = some (.pointer (some ⟨y, 0, none⟩)) ∧ U.cell? ⟨w.heap.size, 1, none⟩ = some (.int .i64 m) ∧ U.cell? ⟨w.heap.size, 2, none⟩ = some (.int .i64 n) := fun U ⟨_, _, _, _, q, _, _⟩ => ⟨q.held P.out.c1 P.out.nv, q.held P.out.c3 P.out.nv, q.held f1 nB1.out, q.held f2 nB1.out⟩
  have hSY : ∀ U U', Kl w0 W U x b T (brK K m) (lbs sv mv) → Yl w0 U U' y r R (brK K m) (lbs su mu) → U'.cell? ⟨v, 1, none⟩ = some (.pointer (some ⟨x, 0, none⟩)) ∧ U'.cell? ⟨v, 3, none⟩ = some (.pointer (some ⟨y, 0, none⟩)) ∧ U'.cell? ⟨w.heap.size, 1, none⟩ = some (.int .i64 m) ∧ U'.cell? ⟨w.heap.size, 2, none⟩ = some (.int .i64 n) := fun U U' ⟨_, _, _, _, q, _, _⟩ ⟨_, _, _, _, p, _, _⟩ => ⟨p.held (q.held P.out.c1 P.out.nv) P.out.nw, p.held (q.held P.out.c3 P.out.nv) P.out.nw, p.held (q.held f1 nB1.out) nB2.out, p.held (q.held f2 nB1.out) nB2.out⟩
  obtain ⟨E, hE⟩ : ∃ E, E = brE K m := ⟨_, rfl⟩
  obtain ⟨KK, hKK⟩ : ∃ E, E = brK K m := ⟨_, rfl⟩
  rw [← hE, ← hKK] at hF1 hF2
  rw [← hKK] at hSZ hSY ⊢
  have hr0 : Kp W W.drew := (Kp.refl W).drew
  have hEE : (E == E) = true := by simp
  clear hE hKK HOk
  rw [hd] at hms
  go_enter Tryz.func11, Tryz.ntmps11
  go_upto_region 1 with fail
  rw [← HW.out]
  clear HW
  go_wp2_with fail
  go_region_held3 (fun U => U.cell? ⟨v, 1, none⟩ = some (.pointer (some ⟨x, 0, none⟩)) ∧ U.cell? ⟨v, 3, none⟩ = some (.pointer (some ⟨y, 0, none⟩)) ∧ U.cell? ⟨w.heap.size, 1, none⟩ = some (.int .i64 m) ∧ U.cell? ⟨w.heap.size, 2, none⟩ = some (.int .i64 n)) (first | exact hSS _ (by assumption) | exact hSY _ _ (by assumption) (by assumption) | exact hSZ _ (by assumption)) (first | (go_at_call 32; refine (hF1 _ (by assumption)).mono ?_; rintro e wf ⟨rfl, zf⟩) | (go_at_call 44; refine (hF2 _ (by assumption)).mono ?_; rintro e wg ⟨rfl, zf2, zg⟩))
  have KF : Hid (Kp w0 wf) := zf.kz.below P.out.kx KW.out
  obtain ⟨T1, s1, m1, p1⟩ := P.out.one zf
  have KG : Hid (Kp w0 wg) := zg.yz.below p1.ky KF.out
  obtain ⟨R1, s2, m2, p2⟩ := p1.two zg
  have P2 := hid p2
  clear hF1 hF2 hSS hSZ hSY hr0 zf zf2 zg p1 p2 f0 f1 f2 c3
  go_wp2
  go_ret
  exact ⟨rfl, ⟨T1, R1, s1, m1, s2, m2, P2.out⟩, KG.out⟩

set_option maxRecDepth 100000 in
set_option maxHeartbeats 4000000 in
theorem act_advance {w0 w : World} {v x b r y : Nat} {T R : List Nat} {K : KS} {sv mv su mu : Value} (h : Pd w0 w v x b r y T R K K sv mv su mu) (hK : Kp w0 w) (ok : Kok K) (d m n : Int) (o : Bool) (va : Option Addr) (vn vc : Nat) (hd : d % 8 = 2 ∨ d % 8 = 7) : Calls Tryz.prog 11 #[.pointer (some ⟨v, 0, none⟩), .agg #[.int .i64 d, .int .i64 m, .int .i64 n, .bool o, .slice va vn vc]] w fun e w' => e = .returned (.bool true) ∧ (∃ T' R' sv' mv' su' mu', Pd w0 w' v x b r y T' R' (baK K m n) (baK K m n) sv' mv' su' mu') ∧ Kp w0 w' := by
  have hms := mask7b d
  have hvl : Hid (v < w.heap.size) := h.vl
  have HTl : Hid (∀ t, t ∈ x :: T → t < w.heap.size) := fun t ht => by
    rcases List.mem_cons.1 ht with e | e
    · rw [e]; exact h.kx.hx
    · exact OL.bw.low h.kx.bay t e
  have HRl : Hid (∀ t, t ∈ y :: R → t < w.heap.size) := fun t ht => by
    rcases List.mem_cons.1 ht with e | e
    · rw [e]; exact h.ky.hx
    · exact OL.dw.low h.ky.bay t e
  obtain ⟨W, hW⟩ : ∃ W, W = w.alloc (.cells #[.int .i64 d, .int .i64 m, .int .i64 n, .bool o, .slice va vn vc] 30) := ⟨_, rfl⟩
  have kW : Kp w W := by rw [hW]; exact (Kp.refl w).alloc _
  obtain ⟨f0, f1, f2⟩ : W.cell? ⟨w.heap.size, 0, none⟩ = some (.int .i64 d) ∧ W.cell? ⟨w.heap.size, 1, none⟩ = some (.int .i64 m) ∧ W.cell? ⟨w.heap.size, 2, none⟩ = some (.int .i64 n) := by
    refine ⟨?_, ?_, ?_⟩ <;> (rw [hW, World.cell?_alloc_at _ _ _ _ rfl]; rfl)
  have HW := hid hW
  have P := hid (h.kp kW)
  have KW : Hid (Kp w0 W) := hK.trans kW
  have HOk := hid ok
  clear hW kW h hK ok
  have nB1 : Hid (w.heap.size ∉ x :: T) := fun hm => by have := HTl.out _ hm; omega
  have nB2 : Hid (w.heap.size ∉ y :: R) := fun hm => by have := HRl.out _ hm; omega
  have c3 := P.out.c3
  have hF1 : ∀ U, Kp W U → Calls Tryz.prog 30 #[.pointer (some ⟨x, 0, none⟩), .int .i64 m, .int .i64 n] U fun e U' => e = .returned (.int .i64 (baE K m n)) ∧ Kl w0 W U' x b T (baK K m n) (lbs sv mv) := fun U q => (advance_l (P.out.kx.kp q) (KW.out.trans q) HOk.out m n).mono fun e U' ⟨he, hz⟩ => ⟨he, hz.off q⟩
  have hF2 : ∀ U, Kl w0 W U x b T (baK K m n) (lbs sv mv) → Calls Tryz.prog 45 #[.pointer (some ⟨y, 0, none⟩), .int .i64 m, .int .i64 n] U fun e U' => e = .returned (.int .i64 (baE K m n)) ∧ Kl w0 W U x b T (baK K m n) (lbs sv mv) ∧ Yl w0 U U' y r R (baK K m n) (lbs su mu) := fun U hz => by
    have hKU : Kp w0 U := hz.kz.below P.out.kx KW.out
    obtain ⟨T', s', m', pU⟩ := P.out.one hz
    exact (rbadvance_l pU.ky hKU HOk.out m n).mono fun e U' ⟨he, hn⟩ => ⟨he, hz, hn⟩
  have hSS : ∀ U, Kp W U → U.cell? ⟨v, 1, none⟩ = some (.pointer (some ⟨x, 0, none⟩)) ∧ U.cell? ⟨v, 3, none⟩ = some (.pointer (some ⟨y, 0, none⟩)) ∧ U.cell? ⟨w.heap.size, 1, none⟩ = some (.int .i64 m) ∧ U.cell? ⟨w.heap.size, 2, none⟩ = some (.int .i64 n) := fun U q => ⟨q.held P.out.c1, q.held P.out.c3, q.held f1, q.held f2⟩
  have hSZ : ∀ U, Kl w0 W U x b T (baK K m n) (lbs sv mv) → U.cell? ⟨v, 1, none⟩ = some (.pointer (some ⟨x, 0, none⟩)) ∧ U.cell? ⟨v, 3, none⟩ = some (.pointer (some ⟨y, 0, none⟩)) ∧ U.cell? ⟨w.heap.size, 1, none⟩ = some (.int .i64 m) ∧ U.cell? ⟨w.heap.size, 2, none⟩ = some (.int .i64 n) := fun U ⟨_, _, _, _, q, _, _⟩ => ⟨q.held P.out.c1 P.out.nv, q.held P.out.c3 P.out.nv, q.held f1 nB1.out, q.held f2 nB1.out⟩
  have hSY : ∀ U U', Kl w0 W U x b T (baK K m n) (lbs sv mv) → Yl w0 U U' y r R (baK K m n) (lbs su mu) → U'.cell? ⟨v, 1, none⟩ = some (.pointer (some ⟨x, 0, none⟩)) ∧ U'.cell? ⟨v, 3, none⟩ = some (.pointer (some ⟨y, 0, none⟩)) ∧ U'.cell? ⟨w.heap.size, 1, none⟩ = some (.int .i64 m) ∧ U'.cell? ⟨w.heap.size, 2, none⟩ = some (.int .i64 n) := fun U U' ⟨_, _, _, _, q, _, _⟩ ⟨_, _, _, _, p, _, _⟩ => ⟨p.held (q.held P.out.c1 P.out.nv) P.out.nw, p.held (q.held P.out.c3 P.out.nv) P.out.nw, p.held (q.held f1 nB1.out) nB2.out, p.held (q.held f2 nB1.out) nB2.out⟩
  obtain ⟨E, hE⟩ : ∃ E, E = baE K m n := ⟨_, rfl⟩
  obtain ⟨KK, hKK⟩ : ∃ E, E = baK K m n := ⟨_, rfl⟩
  rw [← hE, ← hKK] at hF1 hF2
  rw [← hKK] at hSZ hSY ⊢
  have hr0 : Kp W W.drew := (Kp.refl W).drew
  have hEE : (E == E) = true := by simp
  clear hE hKK HOk
  rcases hd with hd | hd
  · rw [hd] at hms
    go_enter Tryz.func11, Tryz.ntmps11
    go_upto_region 1 with fail
    rw [← HW.out]
    clear HW
    go_wp2_with fail
    go_region_held3 (fun U => U.cell? ⟨v, 1, none⟩ = some (.pointer (some ⟨x, 0, none⟩)) ∧ U.cell? ⟨v, 3, none⟩ = some (.pointer (some ⟨y, 0, none⟩)) ∧ U.cell? ⟨w.heap.size, 1, none⟩ = some (.int .i64 m) ∧ U.cell? ⟨w.heap.size, 2, none⟩ = some (.int .i64 n)) (first | exact hSS _ (by assumption) | exact hSY _ _ (by assumption) (by assumption) | exact hSZ _ (by assumption)) (first | (go_at_call 30; refine (hF1 _ (by assumption)).mono ?_; rintro e wf ⟨rfl, zf⟩) | (go_at_call 45; refine (hF2 _ (by assumption)).mono ?_; rintro e wg ⟨rfl, zf2, zg⟩))
    have KF : Hid (Kp w0 wf) := zf.kz.below P.out.kx KW.out
    obtain ⟨T1, s1, m1, p1⟩ := P.out.one zf
    have KG : Hid (Kp w0 wg) := zg.yz.below p1.ky KF.out
    obtain ⟨R1, s2, m2, p2⟩ := p1.two zg
    have P2 := hid p2
    clear hF1 hF2 hSS hSZ hSY hr0 zf zf2 zg p1 p2 f0 f1 f2 c3
    go_wp2
    go_ret
    exact ⟨rfl, ⟨T1, R1, s1, m1, s2, m2, P2.out⟩, KG.out⟩
  · rw [hd] at hms
    go_enter Tryz.func11, Tryz.ntmps11
    go_upto_region 1 with fail
    rw [← HW.out]
    clear HW
    go_wp2_with fail
    go_region_held3 (fun U => U.cell? ⟨v, 1, none⟩ = some (.pointer (some ⟨x, 0, none⟩)) ∧ U.cell? ⟨v, 3, none⟩ = some (.pointer (some ⟨y, 0, none⟩)) ∧ U.cell? ⟨w.heap.size, 1, none⟩ = some (.int .i64 m) ∧ U.cell? ⟨w.heap.size, 2, none⟩ = some (.int .i64 n)) (first | exact hSS _ (by assumption) | exact hSY _ _ (by assumption) (by assumption) | exact hSZ _ (by assumption)) (first | (go_at_call 30; refine (hF1 _ (by assumption)).mono ?_; rintro e wf ⟨rfl, zf⟩) | (go_at_call 45; refine (hF2 _ (by assumption)).mono ?_; rintro e wg ⟨rfl, zf2, zg⟩))
    have KF : Hid (Kp w0 wf) := zf.kz.below P.out.kx KW.out
    obtain ⟨T1, s1, m1, p1⟩ := P.out.one zf
    have KG : Hid (Kp w0 wg) := zg.yz.below p1.ky KF.out
    obtain ⟨R1, s2, m2, p2⟩ := p1.two zg
    have P2 := hid p2
    clear hF1 hF2 hSS hSZ hSY hr0 zf zf2 zg p1 p2 f0 f1 f2 c3
    go_wp2
    go_ret
    exact ⟨rfl, ⟨T1, R1, s1, m1, s2, m2, P2.out⟩, KG.out⟩

theorem act_any {w0 w : World} {v x b r y : Nat} {T R : List Nat} {K : KS} {sv mv su mu : Value} (h : Pd w0 w v x b r y T R K K sv mv su mu) (hK : Kp w0 w) (ok : Kok K) (d m n : Int) (o : Bool) (va : Option Addr) (vn vc : Nat) (hd : d % 8 < 3 ∨ d % 8 = 7) : Calls Tryz.prog 11 #[.pointer (some ⟨v, 0, none⟩), .agg #[.int .i64 d, .int .i64 m, .int .i64 n, .bool o, .slice va vn vc]] w fun e w' => e = .returned (.bool true) ∧ (∃ T' R' sv' mv' su' mu', Pd w0 w' v x b r y T' R' (acK K d m n) (acK K d m n) sv' mv' su' mu') ∧ Kp w0 w' := by
  unfold acK
  by_cases h0 : d % 8 = 0
  · rw [if_pos h0]; exact act_fail h hK ok d m n o va vn vc h0
  · rw [if_neg h0]
    by_cases h1 : d % 8 = 1
    · rw [if_pos h1]; exact act_replace h hK ok d m n o va vn vc h1
    · rw [if_neg h1]; exact act_advance h hK ok d m n o va vn vc (by omega)

end Go.Proofs.YtinpkfdmellleaaGreat
