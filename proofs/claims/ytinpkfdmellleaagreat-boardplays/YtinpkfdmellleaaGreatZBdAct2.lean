/-
  Contracts of the laws' act: Open, Cut, a member's own end, a crash and Open; and of changes where no board is. Conditions: that the pair lies in memory.
-/
import Derived.Test.YtinpkfdmellleaaGreatZBdSame
import Derived.Test.YtinpkfdmellleaaGreatZBdLists
namespace Go.Proofs.YtinpkfdmellleaaGreat
open Go.RowKit Plain
set_option linter.unusedVariables false

/-- an act's own cells. -/
structure Ac (W : World) (X : Nat) (d m n : Int) (o : Bool) (va : Option Addr) (vn vc : Nat) : Prop where
  f0 : W.cell? ⟨X, 0, none⟩ = some (.int .i64 d)
  f1 : W.cell? ⟨X, 1, none⟩ = some (.int .i64 m)
  f2 : W.cell? ⟨X, 2, none⟩ = some (.int .i64 n)
  f3 : W.cell? ⟨X, 3, none⟩ = some (.bool o)
  f4 : W.cell? ⟨X, 4, none⟩ = some (.slice va vn vc)
theorem Ac.new (w : World) (d m n : Int) (o : Bool) (va : Option Addr) (vn vc : Nat) : Ac (w.alloc (.cells #[.int .i64 d, .int .i64 m, .int .i64 n, .bool o, .slice va vn vc] 30)) w.heap.size d m n o va vn vc := by
  refine ⟨?_, ?_, ?_, ?_, ?_⟩ <;> (rw [World.cell?_alloc_at _ _ _ _ rfl]; rfl)
theorem Ac.sp {W U : World} {X : Nat} {d m n : Int} {o : Bool} {va : Option Addr} {vn vc : Nat} {T : List Nat} (h : Ac W X d m n o va vn vc) (k : Sp T W U) (hX : X ∉ T) : Ac U X d m n o va vn vc := ⟨k.held h.f0 hX, k.held h.f1 hX, k.held h.f2 hX, k.held h.f3 hX, k.held h.f4 hX⟩
theorem Ac.kp {W U : World} {X : Nat} {d m n : Int} {o : Bool} {va : Option Addr} {vn vc : Nat} (h : Ac W X d m n o va vn vc) (k : Kp W U) : Ac U X d m n o va vn vc := h.sp (k.sp []) (by simp)

set_option maxRecDepth 100000 in
set_option maxHeartbeats 8000000 in
theorem act_open {w0 w : World} {v b r : Nat} {P R : List Nat} {B : BS} {z : Nat} {s1 s3 : Value} (h : Pb w0 w v b r P R B B s1 s3) (K : Kp w0 w) (ev : Ev B z) (hep : (opnL B).ep < 9007199254740992) (hg : B.g + 100 < 1000000) (d m n : Int) (o : Bool) (va : Option Addr) (vn vc : Nat) (hd : d % 8 = 3) :
    Calls Tryz.prog 11 #[.pointer (some ⟨v, 0, none⟩), .agg #[.int .i64 d, .int .i64 m, .int .i64 n, .bool o, .slice va vn vc]] w fun e w' => e = .returned (.bool true) ∧ Pr w0 w' v b r (opnK B) (decide (opnE B = 0)) ∧ Kp w0 w' := by
  have hms := mask7b d
  have AC := Ac.new w d m n o va vn vc
  have kW : Kp w (w.alloc (.cells #[.int .i64 d, .int .i64 m, .int .i64 n, .bool o, .slice va vn vc] 30)) := (Kp.refl w).alloc _
  obtain ⟨W, hW⟩ : ∃ W, W = w.alloc (.cells #[.int .i64 d, .int .i64 m, .int .i64 n, .bool o, .slice va vn vc] 30) := ⟨_, rfl⟩
  rw [← hW] at AC kW
  have HW := hid hW
  have hLo := lopen_g (h.kp kW) (K.trans kW) ev hep hg
  obtain ⟨f0, f1, f2, f3, f4⟩ := AC
  rw [hd] at hms
  clear hW h K kW
  go_enter Tryz.func11, Tryz.ntmps11
  go_upto_region 1 with fail
  rw [← HW.out]
  clear HW
  go_wp2_with fail
  refine hLo.mono ?_; rintro e w1 ⟨rfl, h1, h2⟩
  have H1 := hid h1
  have H2 := hid h2
  clear hLo h1 h2
  go_wp2
  go_ret
  exact ⟨rfl, H1.out, H2.out⟩

set_option maxRecDepth 100000 in
set_option maxHeartbeats 8000000 in
theorem act_cut {w0 w : World} {v b r : Nat} {P R : List Nat} {B : BS} {s1 s3 : Value} (h : Pb w0 w v b r P R B B s1 s3) (K : Kp w0 w) (d m n : Int) (o : Bool) (va : Option Addr) (vn vc : Nat) (hd : d % 8 = 4) (hn : (Lit.int .i64 n).wf = true) :
    Calls Tryz.prog 11 #[.pointer (some ⟨v, 0, none⟩), .agg #[.int .i64 d, .int .i64 m, .int .i64 n, .bool o, .slice va vn vc]] w fun e w' => e = .returned (.bool true) ∧ Mv w0 w w' b r P R (ctB B n) (ctB B n) := by
  have hms := mask7b d
  have AC := Ac.new w d m n o va vn vc
  have kW : Kp w (w.alloc (.cells #[.int .i64 d, .int .i64 m, .int .i64 n, .bool o, .slice va vn vc] 30)) := (Kp.refl w).alloc _
  obtain ⟨W, hW⟩ : ∃ W, W = w.alloc (.cells #[.int .i64 d, .int .i64 m, .int .i64 n, .bool o, .slice va vn vc] 30) := ⟨_, rfl⟩
  rw [← hW] at AC kW
  have HW := hid hW
  have P1 := hid (h.kp kW)
  have HkW := hid kW
  have HAC := hid AC
  have nX : Hid (w.heap.size ∉ P ∧ w.heap.size ∉ R) := ⟨fun hm => by have := OL.bw.low h.hB _ hm; omega, fun hm => by have := OL.dw.low h.hD _ hm; omega⟩
  have hCt : ∀ U, Kp W U → Calls Tryz.prog 29 #[.pointer (some ⟨b, 0, none⟩), .int .i64 n] U fun e U' => e = .returned (.tuple #[]) ∧ Nz Bw w0 W U' b P (ctB B n) := fun U k => (bw_cut (P1.out.kp k).hB n hn).mono fun e U' ⟨he, hz⟩ => ⟨he, hz.off k⟩
  have hS1 : ∀ U, Kp W U → U.cell? ⟨v, 0, none⟩ = some (.pointer (some ⟨b, 0, none⟩)) ∧ U.cell? ⟨w.heap.size, 2, none⟩ = some (.int .i64 n) := fun U k => ⟨k.held P1.out.c0, k.held HAC.out.f2⟩
  have hS2 : ∀ U, Nz Bw w0 W U b P (ctB B n) → U.cell? ⟨v, 0, none⟩ = some (.pointer (some ⟨b, 0, none⟩)) ∧ U.cell? ⟨w.heap.size, 2, none⟩ = some (.int .i64 n) := fun U ⟨_, _, k, _⟩ => ⟨k.held P1.out.c0 P1.out.nv, k.held HAC.out.f2 nX.out.1⟩
  have hr0 : Kp W W.drew := (Kp.refl W).drew
  have c0 := P1.out.c0
  obtain ⟨f0, f1, f2, f3, f4⟩ := AC
  rw [hd] at hms
  clear hW h K kW
  go_enter Tryz.func11, Tryz.ntmps11
  go_upto_region 1 with fail
  rw [← HW.out]
  clear HW
  go_wp2_with fail
  go_region_held3 (fun U => U.cell? ⟨v, 0, none⟩ = some (.pointer (some ⟨b, 0, none⟩)) ∧ U.cell? ⟨w.heap.size, 2, none⟩ = some (.int .i64 n)) (first | exact hS1 _ (by assumption) | exact hS2 _ (by assumption)) (first
    | (go_at_call 29; refine (hCt _ (by assumption)).mono ?_; rintro e w1 ⟨rfl, n1⟩))
  have N1 := hid n1
  obtain ⟨P2, p2, s2, _⟩ := P1.out.one n1
  have HP2 := hid p2
  have HA2 := hid (HAC.out.sp s2 nX.out.1)
  have hDt : ∀ U, Kp w1 U → Calls Tryz.prog 41 #[.pointer (some ⟨r, 0, none⟩), .int .i64 n] U fun e U' => e = .returned (.tuple #[]) ∧ Nz Dw w0 w1 U' r R (ctB B n) := fun U k => (dw_cut (HP2.out.kp k).hD n hn).mono fun e U' ⟨he, hz⟩ => ⟨he, hz.off k⟩
  have hT1 : ∀ U, Kp w1 U → U.cell? ⟨v, 2, none⟩ = some (.pointer (some ⟨r, 0, none⟩)) ∧ U.cell? ⟨w.heap.size, 2, none⟩ = some (.int .i64 n) := fun U k => ⟨k.held HP2.out.c2, k.held HA2.out.f2⟩
  have hT2 : ∀ U, Nz Dw w0 w1 U r R (ctB B n) → U.cell? ⟨v, 2, none⟩ = some (.pointer (some ⟨r, 0, none⟩)) ∧ U.cell? ⟨w.heap.size, 2, none⟩ = some (.int .i64 n) := fun U ⟨_, _, k, _⟩ => ⟨k.held HP2.out.c2 HP2.out.nw, k.held HA2.out.f2 nX.out.2⟩
  have hr1 : Kp w1 w1.drew := (Kp.refl w1).drew
  clear hCt n1 p2 s2 f0 f1 f2 f3 f4 c0 hS1 hS2 hr0
  obtain ⟨f0, f1, f2, f3, f4⟩ := HA2.out
  have c2 := HP2.out.c2
  go_wp2_with fail
  go_region_held3 (fun U => U.cell? ⟨v, 2, none⟩ = some (.pointer (some ⟨r, 0, none⟩)) ∧ U.cell? ⟨w.heap.size, 2, none⟩ = some (.int .i64 n)) (first | exact hT1 _ (by assumption) | exact hT2 _ (by assumption)) (first
    | (go_at_call 41; refine (hDt _ (by assumption)).mono ?_; rintro e w2 ⟨rfl, n2⟩))
  have N2 := hid n2
  clear hDt n2 hT1 hT2 hr1
  go_wp2
  go_ret
  exact ⟨rfl, _, N1.out.off HkW.out, N2.out⟩

set_option maxRecDepth 100000 in
set_option maxHeartbeats 8000000 in
theorem act_nil {w0 w : World} {v b r : Nat} {P R : List Nat} {B : BS} (h : Pb w0 w v b r P R B B (.pointer none) (.pointer none)) (K : Kp w0 w) (d m n : Int) (o : Bool) (va : Option Addr) (vn vc : Nat) (hd : d % 8 < 3 ∨ d % 8 = 7) :
    Calls Tryz.prog 11 #[.pointer (some ⟨v, 0, none⟩), .agg #[.int .i64 d, .int .i64 m, .int .i64 n, .bool o, .slice va vn vc]] w fun e w' => e = .returned (.bool true) ∧ Kp w w' := by
  have hms := mask7b d
  have AC := Ac.new w d m n o va vn vc
  have kW : Kp w (w.alloc (.cells #[.int .i64 d, .int .i64 m, .int .i64 n, .bool o, .slice va vn vc] 30)) := (Kp.refl w).alloc _
  obtain ⟨W, hW⟩ : ∃ W, W = w.alloc (.cells #[.int .i64 d, .int .i64 m, .int .i64 n, .bool o, .slice va vn vc] 30) := ⟨_, rfl⟩
  rw [← hW] at AC kW
  have HW := hid hW
  have HkW := hid kW
  have P1 := h.kp kW
  have c1 := P1.c1
  have c3 := P1.c3
  obtain ⟨f0, f1, f2, f3, f4⟩ := AC
  obtain ⟨D, hD⟩ : ∃ D, D = d % 8 := ⟨_, rfl⟩
  rw [← hD] at hms hd
  have d3 : (D == 3) = false := by simp; omega
  have d4 : (D == 4) = false := by simp; omega
  have d5 : (D == 5) = false := by simp; omega
  have d6 : (D == 6) = false := by simp; omega
  have h1 : ∀ U, Kp W U → Calls Tryz.prog 33 #[.pointer none, .int .i64 m] U fun e U' => e = .returned (.int .i64 1) ∧ Kp W U' := fun U k => (fail_nil m U).mono fun e U' ⟨he, hu⟩ => ⟨he, by rw [hu]; exact k⟩
  have h2 : ∀ U, Kp W U → Calls Tryz.prog 32 #[.pointer none, .int .i64 m] U fun e U' => e = .returned (.int .i64 1) ∧ Kp W U' := fun U k => (replace_nil m U).mono fun e U' ⟨he, hu⟩ => ⟨he, by rw [hu]; exact k⟩
  have h3 : ∀ U, Kp W U → Calls Tryz.prog 30 #[.pointer none, .int .i64 m, .int .i64 n] U fun e U' => e = .returned (.int .i64 1) ∧ Kp W U' := fun U k => (advance_nil m n U).mono fun e U' ⟨he, hu⟩ => ⟨he, by rw [hu]; exact k⟩
  have hS1 : ∀ U, Kp W U → U.cell? ⟨v, 1, none⟩ = some (.pointer none) ∧ U.cell? ⟨w.heap.size, 1, none⟩ = some (.int .i64 m) ∧ U.cell? ⟨w.heap.size, 2, none⟩ = some (.int .i64 n) := fun U k => ⟨k.held c1, k.held f1, k.held f2⟩
  have hr0 : Kp W W.drew := (Kp.refl W).drew
  clear hW h K kW P1 hD hd
  go_enter Tryz.func11, Tryz.ntmps11
  go_upto_region 1 with fail
  rw [← HW.out]
  clear HW
  go_wp2_with fail
  go_region_held3 (fun U => U.cell? ⟨v, 1, none⟩ = some (.pointer none) ∧ U.cell? ⟨w.heap.size, 1, none⟩ = some (.int .i64 m) ∧ U.cell? ⟨w.heap.size, 2, none⟩ = some (.int .i64 n)) (exact hS1 _ (by assumption)) (first
    | (go_at_call 33; refine (h1 _ (by assumption)).mono ?_; rintro e w1 ⟨rfl, k1⟩)
    | (go_at_call 32; refine (h2 _ (by assumption)).mono ?_; rintro e w2 ⟨rfl, k2⟩)
    | (go_at_call 30; refine (h3 _ (by assumption)).mono ?_; rintro e w3 ⟨rfl, k3⟩))
  have K3 := hid k3
  clear h1 h2 h3 hS1 hr0 k1 k2 k3
  go_wp2
  go_ret
  exact ⟨rfl, HkW.out.trans K3.out⟩

end Go.Proofs.YtinpkfdmellleaaGreat
