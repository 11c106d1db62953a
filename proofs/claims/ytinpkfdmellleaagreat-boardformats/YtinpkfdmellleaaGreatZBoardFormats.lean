/-
  BoardFormats: for every input the law answers true, and its arguments read as before. No condition.
-/
import Derived.Test.YtinpkfdmellleaaGreatRows
import Derived.Test.YtinpkfdmellleaaGreatZBase
import Derived.Test.YtinpkfdmellleaaGreatZBeg
import Derived.Test.YtinpkfdmellleaaGreatZRef
import Derived.Test.YtinpkfdmellleaaGreatZBdKeep
import Derived.WalkKit
import Derived.ProofKit
import Derived.OpenShut
import Derived.ShutString
import Derived.Deep.QuietTactic
import Derived.BigQuiet
import Derived.Deep.RegionWith
import Derived.Deep.RegionHeld3
import Derived.Deep.CutRange
namespace Go.Proofs.YtinpkfdmellleaaGreat.boardFormats
open Go.ChangeShapes Go.WideShapes Go.ChangeAt Go.RowKit
open Go.ChangeMaps (open_string shut_string)
open Go.Proofs.YtinpkfdmellleaaGreat Plain
set_option linter.unusedVariables false

theorem own : ownKnob Tryz.prog.godebug = none := by kernel_rfl
theorem laidOut : laidOutB Tryz.prog = true := by kernel_rfl
theorem cellsI : Tryz.prog.cellsOf 3 = 1 := by kernel_rfl
theorem cellsJ : Tryz.prog.cellsOf 22 = 2 := by kernel_rfl
theorem mask15 (n : Int) : bits .and .i64 n 15 = n % 16 := by
  have h : (BitVec.ofInt 64 15).toNat = 2 ^ 4 - 1 := by decide
  have key : (BitVec.ofInt 64 n &&& BitVec.ofInt 64 15).toNat = (n % ((2 ^ 64 : Nat) : Int)).toNat % 2 ^ 4 := by
    rw [BitVec.toNat_and, BitVec.toNat_ofInt, h, Nat.and_two_pow_sub_one_eq_mod]
  show IntKind.i64.wrap ((BitVec.ofInt 64 n &&& BitVec.ofInt 64 15).toNat : Nat) = n % 16
  rw [key, IntKind.wrap_i64]
  omega
theorem sc_no (d : Nat) (hd : d < 256) : gtE (scS d false) ≠ 0 := by
  refine gt_no (fun _ he => ?_)
  have key : ∀ d : Fin 256, (scS d.val false).extract 0 4 ≠ pfx := by decide +kernel
  exact key ⟨d, hd⟩ he
/-- bays alike but for their members' counts. -/
structure Ak (A B : BS) : Prop where
  n : A.ms.length = B.ms.length
  al : ∀ j, j < B.ms.length → Alk (A.ms.getD j noM) (B.ms.getD j noM)
theorem Ak.refl (B : BS) : Ak B B := ⟨rfl, fun _ _ => Alk.refl _⟩
theorem Ak.read {A B : BS} (h : Ak A B) (i : Nat) (hi : i < B.ms.length) (k : Int) : Ak (put A (i : Int) (rd (A.ms.getD i noM) k)) B := by
  refine ⟨?_, fun j hj => ?_⟩
  · show (A.ms.set (i : Int).toNat _).length = _
    rw [List.length_set]
    exact h.n
  · show Alk ((A.ms.set (i : Int).toNat _).getD j noM) _
    rw [Int.toNat_natCast]
    by_cases e : i = j
    · subst e
      rw [getD_set_eq (by rw [h.n]; exact hi)]
      exact (h.al i hi).rd k
    · rw [getD_set_ne e]
      exact h.al j hj
theorem Ak.fd {A B : BS} (h : Ak A B) {i : Nat} (hi : i < B.ms.length) : fdE A (i : Int) = 0 := by
  unfold fdE
  rw [h.n, if_pos ⟨by omega, by omega⟩]
/-- a member of the bay's, as it lies. -/
theorem bw_at {w0 V : World} {x : Nat} {P : List Nat} {A : BS} (h : Bw w0 V x P A) {i : Nat} (hi : i < A.ms.length) : ∃ z Z, (Calls Tryz.prog 16 #[.pointer (some ⟨x, 0, none⟩), .int .i64 (i : Int)] V fun e w' => e = .returned (.pointer (some ⟨z, 0, none⟩)) ∧ w' = V) ∧ Ow w0 V z Z (A.ms.getD i noM) ∧ ∀ w' S', Nx w0 V w' z Z S' → Right S' → S'.row.length ≤ A.g → Nz Bw w0 V w' x P (put A (i : Int) S') := by
  obtain ⟨m, X, F, rfl, hx⟩ := h
  have hf : fdE A (i : Int) = 0 := by unfold fdE; rw [if_pos ⟨by omega, by omega⟩]
  obtain ⟨Z, z1, z2, z3⟩ := hx.at hf
  have e : bm A (i : Int) = A.ms.getD i noM := by unfold bm; rw [Int.toNat_natCast]
  rw [e, Int.toNat_natCast] at z2
  rw [Int.toNat_natCast] at z3
  have hm := member_any hx (i : Int)
  unfold ptr at hm
  rw [if_pos hf, Int.toNat_natCast] at hm
  exact ⟨_, Z, hm, z2, z3⟩
theorem mem_at {B : BS} {i : Nat} (hi : i < B.ms.length) : B.ms.getD i noM ∈ B.ms := by
  rw [List.getD_eq_getElem?_getD, List.getElem?_eq_getElem hi]
  exact List.getElem_mem hi
theorem fmt_nil (a b : Int) (w : World) : Calls Tryz.prog 19 #[.pointer none, .agg #[.int .i64 a, .int .i64 b]] w fun e w' => e = .returned (.int .i64 1) ∧ Kp w w' := by
  go_enter Tryz.func19, Tryz.ntmps19
  go_wp2
  go_ret
  exact ⟨rfl, (Kp.refl w).alloc _⟩
set_option maxRecDepth 100000 in
set_option maxHeartbeats 20000000 in
theorem walkN (w : World) (a0 b0 a1 b1 : Int) (v1 : Value) (l1 : List A5) (i1 : Acts5 w v1 l1) :
    Calls Tryz.prog 4 #[.agg #[.int .i64 a0, .int .i64 b0], .agg #[.int .i64 a1, .int .i64 b1], v1] w fun e w' => e = .returned (.bool true) ∧ Kp w w' := by
  obtain ⟨q1, c1, rfl, _⟩ := i1.h
  obtain ⟨n1, hn1⟩ : ∃ n1, n1 = l1.length := ⟨_, rfl⟩
  have z1 : n1 ≤ c1 ∧ c1 ≤ 9223372036854775807 := by obtain ⟨a, cap, e, h1, h2, _⟩ := i1.h; simp only [Value.slice.injEq] at e; omega
  obtain ⟨z1, z2⟩ := z1
  rw [← hn1] at i1 ⊢
  have N1 := hid hn1
  have I1 := hid i1
  clear i1 hn1
  have hmin := @imin Tryz.prog
  obtain ⟨m1, e1⟩ : ∃ m : Nat, min (n1 : Int) 20 = (m : Int) := ⟨min n1 20, by omega⟩
  have hm1 : m1 ≤ n1 := by omega
  have hm3 : m1 ≤ 20 := by omega
  obtain ⟨W, hW⟩ : ∃ W, W = (w.alloc (.cells #[.int .i64 a0, .int .i64 b0] 22)).alloc (.cells #[.int .i64 a1, .int .i64 b1] 22) := ⟨_, rfl⟩
  have k0 : Kp w W := by rw [hW]; exact ((Kp.refl w).alloc _).alloc _
  obtain ⟨A0, hA0⟩ : ∃ A0, A0 = w.heap.size := ⟨_, rfl⟩
  obtain ⟨A1, hA1⟩ : ∃ A1, A1 = w.heap.size + 1 := ⟨_, rfl⟩
  have r1 : W.cell? ⟨A0, 0, none⟩ = some (.int .i64 a0) := by rw [hW, hA0]; refine ((Kp.refl _).alloc _).held ?_; rw [World.cell?_alloc_at _ _ _ _ rfl]; rfl
  have r2 : W.cell? ⟨A0, 1, none⟩ = some (.int .i64 b0) := by rw [hW, hA0]; refine ((Kp.refl _).alloc _).held ?_; rw [World.cell?_alloc_at _ _ _ _ rfl]; rfl
  have r3 : W.cell? ⟨A1, 0, none⟩ = some (.int .i64 a1) := by rw [hW, hA1, World.cell?_alloc_at _ _ _ _ (by simp)]; rfl
  have r4 : W.cell? ⟨A1, 1, none⟩ = some (.int .i64 b1) := by rw [hW, hA1, World.cell?_alloc_at _ _ _ _ (by simp)]; rfl
  have hAl : A0 < W.heap.size ∧ A1 < W.heap.size := by rw [hW, hA0, hA1]; simp; omega
  have hAw : w.heap.size ≤ A0 ∧ w.heap.size ≤ A1 := by omega
  have cn1 : ∀ V, Kp W V → Calls Tryz.prog 12 #[.int .i64 a0, .int .i64 b0] V fun e V' => ∃ x P, e = .returned (.pointer (some ⟨x, 0, none⟩)) ∧ Bw w V' x P (nwB a0 b0) ∧ Kp W V' ∧ (∀ t, t ∈ P → W.heap.size ≤ t) := fun V k => (bw_new a0 b0 w V (k0.trans k)).mono fun e V' ⟨x, P, e1, o1, k1, t1⟩ => ⟨x, P, e1, o1, k.trans k1, fun t ht => Nat.le_trans k.size (t1 t ht)⟩
  have cn2 : ∀ V, Kp W V → Calls Tryz.prog 13 #[.int .i64 a0, .int .i64 b0] V fun e V' => ∃ y R, e = .returned (.pointer (some ⟨y, 0, none⟩)) ∧ Dw w V' y R (nwB a0 b0) ∧ Kp W V' ∧ Kp V V' ∧ (∀ t, t ∈ R → V.heap.size ≤ t) := fun V k => (dw_new a0 b0 w V (k0.trans k)).mono fun e V' ⟨y, R, e1, o1, k1, t1⟩ => ⟨y, R, e1, o1, k.trans k1, k1, t1⟩
  have hS1 : ∀ V, Kp W V → V.cell? ⟨A0, 0, none⟩ = some (.int .i64 a0) ∧ V.cell? ⟨A0, 1, none⟩ = some (.int .i64 b0) := fun V k => ⟨k.held r1, k.held r2⟩
  have hr0 : Kp W W.drew := (Kp.refl W).drew
  have HW := hid hW
  have HA0 := hid hA0
  have HA1 := hid hA1
  have K0 := hid k0
  clear hW hA0 hA1 k0
  go_enter Tryz.func4, Tryz.ntmps4
  go_upto_region 1 with fail
  rw [← HA1.out, ← HW.out, ← HA0.out]
  clear HW HA0 HA1
  go_region_held3 (fun V => V.cell? ⟨A0, 0, none⟩ = some (.int .i64 a0) ∧ V.cell? ⟨A0, 1, none⟩ = some (.int .i64 b0)) (exact hS1 _ (by assumption)) (first
    | (go_at_call 12; refine (cn1 _ (by assumption)).mono ?_; rintro e wa ⟨x, P, rfl, oP, ka, tP⟩)
    | (go_at_call 13; refine (cn2 _ (by assumption)).mono ?_; rintro e wb ⟨y, R, rfl, oR, kb, kab, tR⟩))
  have hb0 : Both Bw Dw w wb x y (P ++ R) (nwB a0 b0) (nwB a0 b0) := ⟨P, R, rfl, OL.bw.sp oP (kab.sp []) (fun _ _ h => by cases h), oR, fun t h1 h2 => by have := OL.bw.low oP t h1; have := tR t h2; omega⟩
  have hnT : A1 ∉ P ++ R := fun hm => by
    rcases List.mem_append.1 hm with h | h
    · have := tP A1 h; omega
    · have := tR A1 h; have := ka.size; omega
  have g3 := kb.held r3
  have g4 := kb.held r4
  have F0 := hid (Fz.new a0 b0)
  obtain ⟨T, hT⟩ : ∃ T, T = P ++ R := ⟨_, rfl⟩
  obtain ⟨B0, hB0⟩ : ∃ B0, B0 = nwB a0 b0 := ⟨_, rfl⟩
  obtain ⟨z, hz⟩ : ∃ z, z = nwN b0 := ⟨_, rfl⟩
  obtain ⟨N, hN⟩ : ∃ N, N = (min (max a0 1) 32).toNat := ⟨_, rfl⟩
  rw [← hT, ← hB0] at hb0
  rw [← hT] at hnT
  rw [← hB0, ← hz, ← hN] at F0
  have hz1 : 1 ≤ z ∧ z ≤ 256 := by rw [hz]; unfold nwN; omega
  have HKb : Hid (Kp w wb) := K0.out.trans kb
  have HTb := hid (hb0.new OL.bw OL.dw)
  have HD0 : Hid (Bd w wb x y T B0 B0 wb) := Bx.refl hb0
  have HnT := hid hnT
  have HA1 : Hid (wb.cell? ⟨A1, 0, none⟩ = some (.int .i64 a1) ∧ wb.cell? ⟨A1, 1, none⟩ = some (.int .i64 b1)) := ⟨g3, g4⟩
  clear r1 r2 r3 r4 cn1 cn2 hS1 hr0 oP ka tP oR kb kab tR hb0 hnT g3 g4 hT hB0 hz hN K0
  go_wp2_with fail
  go_loopw [39] (fun i wr => ∃ (k : Nat) (B : BS), k ≤ m1 ∧ i = .int .i64 k ∧ Hid (Bd w wb x y T B B wr) ∧ Hid (Fz B z N k)) (fun i _ => m1 - (intOf i).toNat)
  case atStart => exact ⟨0, B0, by omega, by go_num, HD0, F0⟩
  case round =>
    clear HD0 F0
    obtain ⟨k, B, hk, rfl, HD, HF⟩ := hrel
    by_cases hlt : k < m1
    · have hks : k < l1.length := by rw [← N1.out]; omega
      have KR := HD.out.below HKb.out HTb.out
      obtain ⟨qa, qc, eq, z1_, z2_, hq⟩ := (I1.out.kp KR).take m1 (by rw [← N1.out]; exact hm1)
      obtain ⟨g, off, hqq, hrg⟩ := hq (by omega)
      simp only [Value.slice.injEq] at eq
      obtain rfl : q1 = some ⟨g, off, none⟩ := eq.1.trans hqq
      obtain ⟨f0, f1, f2, f3, f4⟩ := a5_cells (hrg k hlt)
      have fok := I1.out.ok k hks
      obtain ⟨a_, ha_⟩ : ∃ a_, a_ = l1.getD k noA5 := ⟨_, rfl⟩
      rw [← ha_] at f0 f1 f2 f3 f4 fok
      obtain ⟨op_, m_, t_, o_, kv_, KK_⟩ := a_
      simp only at f0 f1 f2 f3 f4
      have hkl : KL w kv_ KK_ := fok.k
      obtain ⟨va, vc, hva, z3_⟩ := hkl.h
      subst hva
      obtain ⟨vn, hvn⟩ : ∃ vn, vn = KK_.length := ⟨_, rfl⟩
      rw [← hvn] at f4
      clear ha_ eq hqq hrg fok z1_ z2_ hq z3_ hvn hkl
      obtain ⟨Wb, hWb⟩ : ∃ Wb, Wb = wr.alloc (.cells #[.int .i64 op_, .int .i64 m_, .int .i64 t_, .bool o_, .slice va vn vc] 30) := ⟨_, rfl⟩
      have kb : Kp wr Wb := by rw [hWb]; exact (Kp.refl wr).alloc _
      obtain ⟨K, hK⟩ : ∃ K, K = wr.heap.size := ⟨_, rfl⟩
      have C0 : Wb.cell? ⟨K, 0, none⟩ = some (.int .i64 op_) := by rw [hWb, World.cell?_alloc_at _ _ _ _ hK]; rfl
      have C1 : Wb.cell? ⟨K, 1, none⟩ = some (.int .i64 m_) := by rw [hWb, World.cell?_alloc_at _ _ _ _ hK]; rfl
      have C2 : Wb.cell? ⟨K, 2, none⟩ = some (.int .i64 t_) := by rw [hWb, World.cell?_alloc_at _ _ _ _ hK]; rfl
      have C3 : Wb.cell? ⟨K, 3, none⟩ = some (.bool o_) := by rw [hWb, World.cell?_alloc_at _ _ _ _ hK]; rfl
      have HWb := hid hWb
      have HK := hid hK
      have HKW := hid kb
      clear hWb hK kb
      go_upto_region 5 with fail
      rw [← HWb.out, ← HK.out]
      obtain ⟨d, hd⟩ : ∃ d, d = (op_ % 256).toNat := ⟨_, rfl⟩
      have hd8 : d < 256 := by omega
      have hdw : IntKind.u8.wrap op_ = (d : Int) := by simp [IntKind.wrap, IntKind.bits, IntKind.signed]; omega
      clear hd HWb
      go_cut [11] (fun sv V => sv = .string (scS d false) ∧ Hid (Kp Wb V))
      case first =>
        obtain ⟨X, hX⟩ : ∃ X, X = Obj.cells #[.int .u8 (d : Int)] 5 := ⟨_, rfl⟩
        obtain ⟨Z, hZ⟩ : ∃ Z, Z = Obj.cells (madeCells #[.int .u8 0] 63) 5 := ⟨_, rfl⟩
        have cX : ∀ (W W' : World) (g : Nat), g = W.heap.size → Kp (W.alloc X) W' → (convert 37 9 (.slice (some ⟨g, 0, none⟩) 1 1)).run Tryz.prog W' = .ok (.string (bs 1 (fun _ => d))) W' := fun W W' g hg k => by
          refine conv_of W' g 1 _ (fun i hi => k.held ?_)
          obtain rfl : i = 0 := by omega
          rw [hX, World.cell?_alloc_at _ _ _ _ hg]; rfl
        have cZ : ∀ (W W' : World) (g : Nat), g = W.heap.size → Kp (W.alloc Z) W' → (convert 37 9 (.slice (some ⟨g, 0, none⟩) 63 63)).run Tryz.prog W' = .ok (.string (bs 63 (fun _ => 0))) W' := fun W W' g hg k => by
          refine conv_of W' g 63 _ (fun i hi => k.held ?_)
          rw [hZ, World.cell?_alloc_at _ _ _ _ hg]; simp [madeCells, hi, Nat.mod_one]
        have c1 := cX Wb (Wb.alloc X).drew Wb.heap.size rfl (Kp.refl _).drew
        have c2 := cX Wb ((Wb.alloc X).alloc Z).drew Wb.heap.size rfl ((Kp.refl _).alloc _).drew
        have c3 := cX (Wb.alloc Z) ((Wb.alloc Z).alloc X).drew (Wb.heap.size + 1) (by simp) (Kp.refl _).drew
        have d1 := cZ Wb (Wb.alloc Z).drew Wb.heap.size rfl (Kp.refl _).drew
        have d2 := cZ Wb ((Wb.alloc Z).alloc X).drew Wb.heap.size rfl ((Kp.refl _).alloc _).drew
        have d3 := cZ (Wb.alloc X) ((Wb.alloc X).alloc Z).drew (Wb.heap.size + 1) (by simp) (Kp.refl _).drew
        have hmk : ∀ W : World, (Instr.makeSlice 37 (.int .i64 63) (.int .i64 63)).run Tryz.prog W = .ok (.slice (some ⟨W.heap.size, 0, none⟩) 63 63) (W.alloc (.cells (madeCells #[.int .u8 0] 63) 5)) := fun W => run_make_row' (P := Tryz.prog) 37 5 (.int .u8 0) 1 Tryz.underlying37 info_u8 rfl .i64 .i64 63 (by omega) (by omega) W
        rw [hX, hZ] at c2 c3 d2 d3
        rw [hX] at c1
        rw [hZ] at d1
        have K1 : Kp Wb ((Wb.alloc X).alloc Z).drew := (((Kp.refl Wb).alloc _).alloc _).drew
        have K2 : Kp Wb ((Wb.alloc Z).alloc X).drew := (((Kp.refl Wb).alloc _).alloc _).drew
        rw [hX, hZ] at K1 K2
        have C0z : (Wb.alloc (.cells (madeCells #[.int .u8 0] 63) 5)).cell? ⟨K, 0, none⟩ = some (.int .i64 op_) := ((Kp.refl Wb).alloc _).held C0
        have hsc : bs 1 (fun _ => d) ++ bs 63 (fun _ => 0) = scS d false := rfl
        obtain ⟨A, hA⟩ : ∃ A, A = bs 1 (fun _ => d) := ⟨_, rfl⟩
        obtain ⟨BB, hBB⟩ : ∃ B, B = bs 63 (fun _ => 0) := ⟨_, rfl⟩
        rw [← hA] at c1 c2 c3 hsc
        rw [← hBB] at d1 d2 d3 hsc
        have hAB : ¬ 9223372036854775807 < A.size + BB.size := by rw [hA, hBB, bs_size, bs_size]; omega
        have HSC := hid hsc
        clear cX cZ hX hZ hA hBB hsc HD HF HK C1 C2 C3 f0 f1 f2 f3 f4 KR
        go_wp2_with fail
        go_region
        all_goals (go_wp2; go_meet; rw [← HSC.out]; first | exact ⟨rfl, K1⟩ | exact ⟨rfl, K2⟩)
      case rest =>
        obtain ⟨rfl, KC⟩ := hcut
        rename World => V0
        have D1 := KC.out.held C1
        have D2 := KC.out.held C2
        have D3 := KC.out.held C3
        have hKW : K < Wb.heap.size := World.block_lt_of_cell? _ _ C0
        have hg0 : B.g ≤ 20 := by have := HF.out.g; omega
        have HF1 := hid (HF.out.write m_ t_ (scS d false) (sc_no d hd8))
        obtain ⟨P0, R0, b0⟩ := Bk.of HD.out HK.out (HKW.out.trans KC.out) (Nat.lt_of_lt_of_le hKW KC.out.size)
        have hw1 := bw_write b0.a (b0.below HKb.out HTb.out) m_ t_ (scS d false) (by omega)
        obtain ⟨B1, hB1⟩ : ∃ B1, B1 = opS B m_ (fun S => Go.Proofs.YtinpkfdmellleaaGreat.wr S t_ (scS d false)) := ⟨_, rfl⟩
        rw [← hB1] at hw1 HF1
        have HB1 := hid hB1
        have HB0 := hid b0
        clear C0 C1 C2 C3 f0 f1 f2 f3 f4 KR hdw HD HK HKW hKW b0 hB1
        go_wp2_with fail
        refine hw1.mono ?_; rintro e V1 ⟨rfl, nz1⟩
        obtain ⟨⟨P1, b1⟩, hc1⟩ := HB0.out.mk1 nz1
        have G1 := hc1 1 _ D1
        have G2 := hc1 2 _ D2
        have G3 := hc1 3 _ D3
        have hw2 := dw_write b1.b (b1.below HKb.out HTb.out) m_ t_ (scS d false) (by omega)
        rw [← HB1.out] at hw2
        have HBk1 := hid b1
        clear hw1 nz1 hc1 D1 D2 D3 HB0 b1
        go_wp2_with fail
        refine hw2.mono ?_; rintro e V2 ⟨rfl, nz2⟩
        obtain ⟨⟨R2, b2⟩, hc2⟩ := HBk1.out.mk2 nz2
        have D1 := hc2 1 _ G1
        have D3 := hc2 3 _ G3
        have hK2 := b2.below HKb.out HTb.out
        have HB2 := hid b2
        have HBd2 := hid b2.bd
        clear hw2 nz2 hc2 G1 G2 G3 HBk1 b2
        cases o_ with
        | false =>
          clear hK2
          go_wp2
          go_roundw
          case rel => exact ⟨k + 1, B1, by omega, by go_num, HBd2, HF1⟩
          case measure => simp [intOf]; omega
        | true =>
          have h15 := mask15 m_
          by_cases hm : m_ % 16 = 1
          · rw [hm] at h15
            clear hm
            by_cases hf : fdE B1 m_ = 0
            · obtain ⟨zz, hMem, hFail⟩ := bk_fail HB2.out.a hK2 hf
              clear hK2
              go_wp2_with fail
              refine hMem.mono ?_; rintro e V3 ⟨rfl, rfl⟩
              go_wp2_with fail
              refine hMem.mono ?_; rintro e V3 ⟨rfl, rfl⟩
              go_wp2_with fail
              refine hFail.mono ?_; rintro e V4 ⟨rfl, nz4⟩
              obtain ⟨⟨P4, b4⟩, hc4⟩ := HB2.out.mk1 nz4
              have G1 := hc4 1 _ D1
              obtain ⟨mm, cc, z2_, e0, e1_, ⟨k1_, k2_⟩, ⟨i0, i1_⟩, hF2⟩ := dk_fail b4.b (b4.below HKb.out HTb.out) hf
              have HB4 := hid b4
              have HFL := hid (HF1.out.fail m_)
              obtain ⟨mi, rfl⟩ : ∃ n : Nat, m_ = n := ⟨m_.toNat, by omega⟩
              rw [Int.toNat_natCast] at e1_
              have y0 := kpw_cell e0
              have y1 := kpw_cell e1_
              have y2 := kpw_cell G1
              clear hMem hFail nz4 hc4 b4 D1 D3 hf HF1
              go_wp2_with fail
              refine wp_region_tailc2 rfl (by kernel_rfl) (by kernel_rfl) (by kernel_rfl) ?_
              simp only [List.dropLast]
              repeat (first
                | go_big_quiet_skip
                | (go_big_quiet_want; go_big_quiet_op; go_big_quiet_on))
              refine wpQuiet_nil ?_
              rintro w9 ⟨p, hp9⟩
              have kD : Kp V4 w9 := by rw [hp9]; exact kpw_kp V4 p
              have hF3 := hF2 w9 kD
              clear hp9 y0 y1 y2 e0 e1_ G1 hF2 kD
              go_wp2_with fail
              refine hF3.mono ?_; rintro e V5 ⟨rfl, nz5⟩
              obtain ⟨⟨R5, b5⟩, _⟩ := HB4.out.mk2 nz5
              have HBd5 := hid b5.bd
              clear hF3 nz5 b5
              go_wp2
              go_roundw
              case rel => exact ⟨k + 1, _, by omega, by go_num, HBd5, HFL⟩
              case measure => simp [intOf]; omega
            · have hNo := bw_nomember HB2.out.a hf
              clear hK2 hf
              go_wp2_with fail
              refine hNo.mono ?_; rintro e V3 ⟨rfl, rfl⟩
              clear hNo
              go_wp2
              go_roundw
              case rel => exact ⟨k + 1, B1, by omega, by go_num, HBd2, HF1⟩
              case measure => simp [intOf]; omega
          · obtain ⟨q, hq⟩ : ∃ q, q = m_ % 16 := ⟨_, rfl⟩
            rw [← hq] at h15 hm
            clear hq hK2
            go_wp2
            go_roundw
            case rel => exact ⟨k + 1, B1, by omega, by go_num, HBd2, HF1⟩
            case measure => simp [intOf]; omega
    · obtain rfl : k = m1 := by omega
      have KR := HD.out.below HKb.out HTb.out
      obtain ⟨T', ⟨P0, R0, rfl, h1, h2, dj⟩, q2, q3⟩ := HD.out
      have hA1b : A1 < wb.heap.size := World.block_lt_of_cell? _ _ HA1.out.1
      have hnot : A1 ∉ P0 ++ R0 := fun hm => by
        rcases q3 A1 hm with h | h
        · exact HnT.out h
        · omega
      have b0 : Bk w wb wr x y A1 T P0 R0 B B := ⟨h1, h2, dj, fun h => hnot (List.mem_append_left _ h), fun h => hnot (List.mem_append_right _ h), Nat.lt_of_lt_of_le hA1b q2.size, q2, q3⟩
      have r3 := q2.held HA1.out.1 HnT.out
      have r4 := q2.held HA1.out.2 HnT.out
      have hgB : B.g ≤ 20 := by have := HF.out.g; omega
      obtain ⟨E, hE⟩ : ∃ E, E = fmE B a1 b1 := ⟨_, rfl⟩
      obtain ⟨B', hB'⟩ : ∃ B', B' = fmS B a1 b1 := ⟨_, rfl⟩
      have hF1 : ∀ U, Kp wr U → Calls Tryz.prog 19 #[.pointer (some ⟨x, 0, none⟩), .agg #[.int .i64 a1, .int .i64 b1]] U fun e U' => e = .returned (.int .i64 E) ∧ Nz Bw w wr U' x P0 B' := fun U k => by
        have h1' := format_any (OL.bw.sp h1 (k.sp []) (fun _ _ h => by cases h)) (KR.trans k) a1 b1 HF.out.ev HF.out.pw (by omega)
        rw [← hE, ← hB'] at h1'
        exact h1'.mono fun e U' ⟨he, hn⟩ => ⟨he, hn.off k⟩
      have hF2 : ∀ U, Nz Bw w wr U x P0 B' → Calls Tryz.prog 20 #[.pointer (some ⟨y, 0, none⟩), .agg #[.int .i64 a1, .int .i64 b1]] U fun e U' => e = .returned (.int .i64 E) ∧ Nz Bw w wr U x P0 B' ∧ Nz Dw w U U' y R0 B' := fun U hz => by
        have hKU : Kp w U := hz.below OL.bw h1 KR
        obtain ⟨⟨P', bb⟩, _⟩ := b0.mk1 hz
        have h1' := rformat_any bb.b hKU a1 b1 HF.out.ev HF.out.pw (by omega)
        rw [← hE, ← hB'] at h1'
        exact h1'.mono fun e U' ⟨he, hn⟩ => ⟨he, hz, hn⟩
      have hSS : ∀ U, Kp wr U → U.cell? ⟨A1, 0, none⟩ = some (.int .i64 a1) ∧ U.cell? ⟨A1, 1, none⟩ = some (.int .i64 b1) := fun U k => ⟨k.held r3, k.held r4⟩
      have hSZ : ∀ U, Nz Bw w wr U x P0 B' → U.cell? ⟨A1, 0, none⟩ = some (.int .i64 a1) ∧ U.cell? ⟨A1, 1, none⟩ = some (.int .i64 b1) := fun U hz => ⟨(b0.mk1 hz).2 0 _ r3, (b0.mk1 hz).2 1 _ r4⟩
      have hSY : ∀ U U', Nz Bw w wr U x P0 B' → Nz Dw w U U' y R0 B' → U'.cell? ⟨A1, 0, none⟩ = some (.int .i64 a1) ∧ U'.cell? ⟨A1, 1, none⟩ = some (.int .i64 b1) := fun U U' hz hy => by
        obtain ⟨⟨P', bb⟩, hh⟩ := b0.mk1 hz
        exact ⟨(bb.mk2 hy).2 0 _ (hh 0 _ r3), (bb.mk2 hy).2 1 _ (hh 1 _ r4)⟩
      have hr0 : Kp wr wr.drew := (Kp.refl wr).drew
      have Hb0 := hid b0
      have HE := hid hE
      have HB' := hid hB'
      clear h1 h2 dj q2 q3 hnot b0 hE hB' HD
      go_upto_region 12 with fail
      go_region_held3 (fun U => U.cell? ⟨A1, 0, none⟩ = some (.int .i64 a1) ∧ U.cell? ⟨A1, 1, none⟩ = some (.int .i64 b1)) (first | exact hSS _ (by assumption) | exact hSY _ _ (by assumption) (by assumption) | exact hSZ _ (by assumption)) (first | (go_at_call 19; refine (hF1 _ (by assumption)).mono ?_; rintro e wf ⟨rfl, zf⟩) | (go_at_call 20; refine (hF2 _ (by assumption)).mono ?_; rintro e wg ⟨rfl, zf2, zg⟩))
      obtain ⟨⟨P1, b1_⟩, _⟩ := Hb0.out.mk1 zf
      obtain ⟨⟨R1, b2_⟩, _⟩ := b1_.mk2 zg
      have Hb2 := hid b2_
      have hKg := b2_.below HKb.out HTb.out
      have HO : Hid (Ev B' z ∧ (opnL B').ep < 9007199254740992 ∧ B'.g + 100 < 1000000) := by
        by_cases h0 : fmE B a1 b1 = 0
        · obtain ⟨bo, hdd, hgg, hll⟩ := fm_ok HF.out.pw HF.out.ev h0
          rw [← HB'.out] at bo hdd hgg hll
          have hn1 := (Hb2.out.a.gd).n1
          obtain ⟨C, hQ, hX, hL, s1⟩ := opn_read bo ⟨0, by omega, hdd 0 (by rw [← hll]; omega)⟩
          refine ⟨bo.ev, by rw [hL]; show (1 : Int) < _; omega, by omega⟩
        · have e : B' = B := by rw [HB'.out]; unfold fmS; rw [if_neg h0]
          rw [e]
          exact ⟨HF.out.ev, by rw [(opn_no HF.out).1]; omega, by omega⟩
      have hOp := open_any b2_.a hKg HO.out.1 HO.out.2.1 HO.out.2.2
      obtain ⟨E2, hE2⟩ : ∃ E2, E2 = opnE B' := ⟨_, rfl⟩
      obtain ⟨KK, hKK⟩ : ∃ KK, KK = opnK B' := ⟨_, rfl⟩
      rw [← hE2, ← hKK] at hOp
      have HE2 := hid hE2
      have HKK := hid hKK
      clear hF1 hF2 hSS hSZ hSY hr0 zf zf2 zg b1_ b2_ r3 r4 hKg hE2 hKK
      go_wp2_with fail
      refine hOp.mono ?_; rintro e V1 ⟨p1, rfl, ox⟩
      have hKV1 : Kp w V1 := by
        by_cases ho : E2 = 0
        · obtain ⟨x9, _, _, P3, sv, mv, kx, sp3, nw3, _⟩ := ox.1 ho
          exact (Hb2.out.to1 kx.bay sp3 nw3).below HKb.out HTb.out
        · obtain ⟨_, nz⟩ := ox.2 ho
          obtain ⟨⟨P3, b3⟩, _⟩ := Hb2.out.mk1 nz
          exact b3.below HKb.out HTb.out
      by_cases ho : E2 = 0
      · obtain ⟨x9, rfl, hx9, P3, sv, mv, kx, sp3, nw3, own3⟩ := ox.1 ho
        have b3 := Hb2.out.to1 kx.bay sp3 nw3
        have hRo := ropen_any b3.b hKV1 HO.out.2.1 HO.out.2.2
        rw [← HE2.out, ← HKK.out] at hRo
        have hR1 := OL.dw.low Hb2.out.b
        have Hkx := hid kx
        have Hb3 := hid b3
        have Hx9 := hid hx9
        have Hown := hid own3
        have HR1 := hid hR1
        clear hOp ox kx sp3 nw3 own3 b3 hx9 hR1
        go_wp2_with fail
        refine hRo.mono ?_; rintro e V2 ⟨p2, rfl, oy⟩
        obtain ⟨y9, rfl, hy9, R3, tv, nv, yx, sp4, nw4⟩ := oy.1 ho
        have b4 := Hb3.out.to2 yx.bay sp4 nw4
        have kx2 := Hkx.out.sp sp4 (fun t ht hm => by
          rcases List.mem_cons.1 ht with h | h
          · subst h; have := HR1.out _ hm; have := Hx9.out; omega
          · exact Hb3.out.d t h hm) (fun q hq hm => by have := HR1.out _ hm; have := Hown.out q (.inl hq); omega) (fun q hq hm => by have := HR1.out _ hm; have := Hown.out q (.inr hq); omega)
        have HLn : Hid (KK.l.sts.length ≤ 1000 ∧ KK.l.mks.length ≤ 1000 ∧ KK.l.sts.length = KK.l.mks.length) := by
          have h0 : fmE B a1 b1 = 0 := by
            apply Classical.byContradiction
            intro h0
            have e : B' = B := by rw [HB'.out]; unfold fmS; rw [if_neg h0]
            have h1 := (opn_no HF.out).2
            rw [← e, ← HE2.out, ho] at h1
            exact h1 rfl
          obtain ⟨bo, hdd, hgg, hll⟩ := fm_ok HF.out.pw HF.out.ev h0
          rw [← HB'.out] at bo hdd hgg hll
          have hn1 := (Hb2.out.a.gd).n1
          obtain ⟨_, _, _, bo2, _⟩ := opn_ok bo (by show (1 : Int) + 1 ≤ _; omega) ⟨0, by omega, hdd 0 (by rw [← hll]; omega)⟩
          rw [← HKK.out] at bo2
          have hl := (lg_iff KK.l).1 bo2.good
          have hg := (gg_iff _ _).1 hl.1
          have h3 := hl.2.2.2.1
          have h4 := hl.2.2.2.2.1
          refine ⟨by omega, by omega, by omega⟩
        subst ho
        have hKV2 := b4.below HKb.out HTb.out
        obtain ⟨C, lb⟩ := KK
        obtain ⟨n_, s_, ep_, sts_, mks_⟩ := lb
        simp only at HLn
        have cW : ∀ U, Kp V2 U → Calls Tryz.prog 9 #[] U fun e U' => e = .returned (.bool true) ∧ Kp V2 U' := fun U k => (wakes17 U).mono fun e U' ⟨he, k'⟩ => ⟨he, k.trans k'⟩
        have cL : ∀ U, Kp V2 U → Calls Tryz.prog 24 #[.pointer (some ⟨x9, 0, none⟩)] U fun e U' => ∃ u1 u2, e = .returned (lV n_ s_ ep_ u1 u2) ∧ Nl U' u1 sts_ ∧ Nl U' u2 mks_ ∧ Kp V2 U' := fun U k => (label_any (kx2.kp k) HLn.out.1 HLn.out.2.1).mono fun e U' ⟨u1, u2, he, tw, k'⟩ => ⟨u1, u2, he, tw.n1, tw.n2, k.trans k'⟩
        have cS : ∀ U u1 u2, Nl U u1 sts_ → Nl U u2 mks_ → Kp V2 U → Calls Tryz.prog 23 #[lV n_ s_ ep_ u1 u2, .agg #[.int .i64 n_, .int .i64 s_, .int .i64 ep_, tv, nv]] U fun e U' => e = .returned (.bool true) ∧ Kp V2 U' := fun U u1 u2 h1 h2 k => (same_label ⟨n_, s_, ep_, sts_, mks_⟩ u1 u2 tv nv U h1 h2 (yx.n1.kept k) (yx.n2.kept k) HLn.out.2.2).mono fun e U' ⟨he, k'⟩ => ⟨he, k.trans k'⟩
        have cT : ∀ U, Kp V2 U → Calls Tryz.prog 25 #[.pointer (some ⟨x, 0, none⟩)] U fun e U' => e = .returned (.int .i64 (C.md : Int)) ∧ Kp V2 U' := fun U k => (bw_steps (b4.up k).a).mono fun e U' ⟨he, hu⟩ => ⟨he, by rw [hu]; exact k⟩
        obtain ⟨mm, cc, e0, e1_, e2_, e3_, _⟩ := b4.bd.list2
        have v1 := yx.c1
        have v2 := yx.c2
        have v3 := yx.c3
        have v4 := yx.c4
        have v5 := yx.c5
        simp only at v1 v2 v3
        have hS : ∀ U, Kp V2 U → U.cell? ⟨y9, 1, none⟩ = some (.int .i64 n_) ∧ U.cell? ⟨y9, 2, none⟩ = some (.int .i64 s_) ∧ U.cell? ⟨y9, 3, none⟩ = some (.int .i64 ep_) ∧ U.cell? ⟨y9, 4, none⟩ = some tv ∧ U.cell? ⟨y9, 5, none⟩ = some nv ∧ U.cell? ⟨y, 1, none⟩ = some (.int .i64 (C.md : Int)) := fun U k => ⟨k.held v1, k.held v2, k.held v3, k.held v4, k.held v5, k.held e3_⟩
        have hr0 : Kp V2 V2.drew := (Kp.refl V2).drew
        obtain ⟨w1_, w2_, w3_, w4_, w5_, w6_⟩ := hS _ hr0
        have Hb4 := hid b4
        have HKV2 := hid hKV2
        clear hRo oy yx sp4 nw4 b4 kx2 Hkx Hb3 Hx9 Hown HR1 e0 e1_ e2_ e3_ v1 v2 v3 v4 v5 hKV1 hKV2
        go_wp2_with fail
        go_region_held3 (fun U => U.cell? ⟨y9, 1, none⟩ = some (.int .i64 n_) ∧ U.cell? ⟨y9, 2, none⟩ = some (.int .i64 s_) ∧ U.cell? ⟨y9, 3, none⟩ = some (.int .i64 ep_) ∧ U.cell? ⟨y9, 4, none⟩ = some tv ∧ U.cell? ⟨y9, 5, none⟩ = some nv ∧ U.cell? ⟨y, 1, none⟩ = some (.int .i64 (C.md : Int))) (exact hS _ (by assumption)) (first
          | (go_at_call 9; refine (cW _ (by assumption)).mono ?_; rintro e ua ⟨rfl, ka⟩; obtain ⟨wa1, wa2, wa3, wa4, wa5, wa6⟩ := hS _ ka)
          | (go_at_call 24; refine (cL _ (by assumption)).mono ?_; rintro e ub ⟨u1, u2, rfl, nl1, nl2, kb⟩; obtain ⟨wb1, wb2, wb3, wb4, wb5, wb6⟩ := hS _ kb)
          | (go_at_call 23; refine (cS _ u1 u2 (by assumption) (by assumption) (by assumption)).mono ?_; rintro e uc ⟨rfl, kc⟩; obtain ⟨wc1, wc2, wc3, wc4, wc5, wc6⟩ := hS _ kc)
          | (go_at_call 25; refine (cT _ (by assumption)).mono ?_; rintro e ud ⟨rfl, kd⟩))
        have Hb5 := hid (Hb4.out.up kd)
        obtain ⟨w9, hw9⟩ : ∃ w9, w9 = ud := ⟨_, rfl⟩
        rw [← hw9] at Hb5 ⊢
        clear cW cL cS cT hS hr0 w1_ w2_ w3_ w4_ w5_ w6_ hw9
        have hb5 := Hb5.out
        obtain ⟨V, hV⟩ : ∃ V, V = w9 := ⟨_, rfl⟩
        have KR := hb5.below HKb.out HTb.out
        have hbw := hb5.a
        have dj := hb5.d
        obtain ⟨m, cap, X, F, hRe, hrx⟩ := hb5.b
        subst hRe
        obtain ⟨P2, hP2⟩ : ∃ P2, P2 = P3 := ⟨_, rfl⟩
        rw [← hP2] at hbw dj
        rw [← hV] at KR hbw hrx ⊢
        clear hb5 Hb5 hP2
        have c0 := hrx.c0
        have k1 := hrx.k1
        have k2 := hrx.k2
        have hn32 := hrx.gd.n2
        obtain ⟨NN, hN⟩ : ∃ NN, NN = C.ms.length := ⟨_, rfl⟩
        rw [← hN] at c0 k1 hn32
        have HNN := hid hN
        have HRX := hid hrx
        have HBW := hid hbw
        have HDJ := hid dj
        have HKR := hid KR
        have HRt : Hid (∀ S ∈ C.ms, Right S) := hrx.gd.rt
        clear hN hrx hbw dj KR hV
        go_wp2_with fail
        go_loopw [159] (fun i wr => ∃ (j : Nat) (A : BS), j ≤ NN ∧ i = .int .i64 j ∧ Hid (Nz Bw w V wr x P2 A) ∧ Hid (Ak A C)) (fun i _ => NN - (intOf i).toNat)
        case atStart => exact ⟨0, C, by omega, by go_num, Nz.refl HBW.out, Ak.refl C⟩
        case round =>
          clear c0
          obtain ⟨j, A, hj, rfl, HX, HA⟩ := hrel
          by_cases hjn : j < NN
          · have hjB : j < C.ms.length := by rw [← HNN.out]; exact hjn
            obtain ⟨V9, hV9⟩ : ∃ V9, V9 = wr := ⟨_, rfl⟩
            rw [← hV9] at HX ⊢
            have rx9 : RX w V9 y m cap X F C := by
              obtain ⟨_, _, q2, _⟩ := HX.out
              exact HRX.out.sp q2 HDJ.out.symm
            have ar := rx9.ar j hjB
            obtain ⟨Z, _, ⟨gs, cg, wv, _, hri, _⟩, _⟩ := rx9.atX j hjB
            have d0 := hri.c0
            have d1 := hri.k1
            have d2 := hri.k2
            have hl256 := hri.fine.n2
            obtain ⟨z, hz⟩ : ∃ z, z = X.getD j 0 := ⟨_, rfl⟩
            rw [← hz] at ar d0
            have HZ := hid hz
            obtain ⟨S, hS⟩ : ∃ S, S = C.ms.getD j noM := ⟨_, rfl⟩
            rw [← hS] at d0 d1 hl256
            have HS := hid hS
            obtain ⟨L, hL⟩ : ∃ L, L = S.las.length := ⟨_, rfl⟩
            rw [← hL] at d0 d1 hl256
            have HL := hid hL
            clear hz hS hL rx9 hri hV9
            go_wp2_with fail
            go_loopw [169] (fun i wr => ∃ (t : Nat) (A : BS), t ≤ L ∧ i = .int .i64 t ∧ Hid (Nz Bw w V wr x P2 A) ∧ Hid (Ak A C)) (fun i _ => L - (intOf i).toNat)
            case atStart => exact ⟨0, A, by omega, by go_num, HX, HA⟩
            case round =>
              clear HX HA ar d0
              obtain ⟨t, A', ht, rfl, HX, HA⟩ := hrel
              by_cases htl : t < L
              · have hjA : j < A'.ms.length := by rw [HA.out.n]; exact hjB
                have KX := HX.out.below OL.bw HBW.out HKR.out
                obtain ⟨P3, h3, s3, n3⟩ := HX.out
                obtain ⟨zz, Q3, hmem, how, hnz⟩ := bw_at h3 hjA
                have hrd := ow_read how KX (t : Int)
                have alk := HA.out.al j hjB
                rw [← HS.out] at alk
                have hR3 : Right (A'.ms.getD j noM) := h3.gd.rt _ (mem_at hjA)
                have hl3 : (A'.ms.getD j noM).row.length ≤ A'.g := h3.gd.rl _ (mem_at hjA)
                have hRS : Right S := by rw [HS.out]; exact HRt.out _ (mem_at hjB)
                obtain ⟨A2, hA2⟩ : ∃ A2, A2 = put A' (j : Int) (rd (A'.ms.getD j noM) (t : Int)) := ⟨_, rfl⟩
                have hak : Hid (Ak A2 C) := by rw [hA2]; exact HA.out.read j hjB (t : Int)
                have HNX : Hid (∀ w', Nx w wr w' zz Q3 (rd (A'.ms.getD j noM) (t : Int)) → Nz Bw w V w' x P2 A2) := fun w' nx => by
                  rw [hA2]
                  obtain ⟨P4, y1, y2, y3⟩ := hnz w' _ nx (hR3.rd _) (by unfold rd; split <;> exact hl3)
                  exact ⟨P4, y1, s3.then y2 n3, n3.trans y3 s3.size⟩
                obtain ⟨E, hE⟩ : ∃ E, E = rcE (A'.ms.getD j noM) (t : Int) := ⟨_, rfl⟩
                obtain ⟨sR, hsR⟩ : ∃ sR, sR = rdS (A'.ms.getD j noM) (t : Int) := ⟨_, rfl⟩
                have hlive : S.dead = false → E = 0 ∧ sR = (pl S.las S.row).getD t noS := fun hd => by
                  have hd3 : (A'.ms.getD j noM).dead = false := by rw [alk.dead]; exact hd
                  have hl : t < (A'.ms.getD j noM).las.length := by rw [alk.las, ← HL.out]; exact htl
                  refine ⟨by rw [hE]; exact rc_in hd3 hl, ?_⟩
                  rw [hsR, rd_in hd3 hl, alk.now, hRS.live hd]
                rw [← hE, ← hsR] at hrd
                have HLV := hid hlive
                clear hE hsR hA2 hnz hR3 hl3 hRS how h3 s3 n3 hlive alk
                go_wp2_with fail
                refine hmem.mono ?_
                rintro e W2 ⟨rfl, rfl⟩
                go_wp2_with fail
                refine hrd.mono ?_
                rintro e W3 ⟨rfl, nx⟩
                have nz3 := HNX.out W3 nx
                have hrx3 : RX w W3 y m cap X F C := by
                  obtain ⟨_, _, q2, _⟩ := nz3
                  exact HRX.out.sp q2 HDJ.out.symm
                obtain ⟨Z3, _, ⟨gs3, cg3, wv3, _, hri, _⟩, _⟩ := hrx3.atX j hjB
                rw [← HS.out, ← HZ.out] at hri
                have cd := hri.c2
                have hnow := now_any hri t (by rw [← HL.out]; exact htl)
                have NZ3 := hid nz3
                clear nx hrd hmem HNX hrx3 hri nz3 KX
                cases hdd : S.dead with
                | true =>
                  rw [hdd] at cd
                  clear hdd hnow HLV
                  go_wp2
                  go_roundw
                  case rel => exact ⟨t + 1, A2, by omega, by go_num, NZ3, hak⟩
                  case measure => simp [intOf]; omega
                | false =>
                  rw [hdd] at cd
                  obtain ⟨rfl, hsE⟩ := HLV.out hdd
                  rw [← hsE] at hnow
                  clear hdd HLV hsE
                  go_wp2_with fail
                  refine hnow.mono ?_
                  rintro e W4 ⟨rfl, rfl⟩
                  go_wp2
                  go_roundw
                  case rel => exact ⟨t + 1, A2, by omega, by go_num, NZ3, hak⟩
                  case measure => simp [intOf]; omega
              · obtain rfl : t = L := by omega
                go_wp2
                go_roundw
                case rel => exact ⟨j + 1, A', by omega, by go_num, HX, HA⟩
                case measure => simp [intOf]; omega
          · obtain rfl : j = NN := by omega
            have HKX := hid (HX.out.below OL.bw HBW.out HKR.out)
            go_wp2_with fail
            refine (fmt_nil 0 0 _).mono ?_
            rintro e W9 ⟨rfl, k9⟩
            go_wp2
            go_ret
            exact ⟨rfl, HKX.out.trans k9⟩
      · obtain ⟨rfl, nz⟩ := ox.2 ho
        obtain ⟨⟨P3, b3⟩, _⟩ := Hb2.out.mk1 nz
        have hRo := ropen_any b3.b hKV1 HO.out.2.1 HO.out.2.2
        rw [← HE2.out, ← HKK.out] at hRo
        have Hb3 := hid b3
        clear hOp ox b3 nz
        go_wp2_with fail
        refine hRo.mono ?_; rintro e V2 ⟨p2, rfl, oy⟩
        obtain ⟨rfl, nz⟩ := oy.2 ho
        obtain ⟨⟨R3, b4⟩, _⟩ := Hb3.out.mk2 nz
        have hKV2 := b4.below HKb.out HTb.out
        obtain ⟨C, hC⟩ : ∃ C, C = KK.b := ⟨_, rfl⟩
        rw [← hC] at b4
        have Hb4 := hid b4
        have hst := fun p => bw_steps (Hb4.out.up (kpw_kp V2 p)).a
        obtain ⟨mm, cc, e0, e1_, e2_, e3_, _⟩ := b4.bd.list2
        have y1 := kpw_cell e3_
        have HKV2 := hid hKV2
        clear hRo oy nz b4 hKV2 hC hKV1 Hb3
        go_wp2_with fail
        refine wp_region_kp (by kernel_rfl) (by kernel_rfl) ?_
        repeat (first
          | go_big_quiet_skip
          | (go_big_quiet_want; go_big_quiet_op; go_big_quiet_on)
          | (go_big_quiet_want; go_big_quiet_op; apply Exists.intro; refine ⟨fun p => ?_, ?_⟩; (focus
              first
              | (go_at_call 9; exact kp_call (wakes17 _))
              | (go_at_call 25; exact kp_same (hst _))); go_big_quiet_on))
        refine wpQuiet_nil ?_
        rintro w9 ⟨p, hp9⟩
        have kD : Kp V2 w9 := by rw [hp9]; exact kpw_kp V2 p
        have Hb5 := hid (Hb4.out.up kD)
        clear hp9 y1 hst kD
        have hb5 := Hb5.out
        obtain ⟨V, hV⟩ : ∃ V, V = w9 := ⟨_, rfl⟩
        have KR := hb5.below HKb.out HTb.out
        have hbw := hb5.a
        have dj := hb5.d
        obtain ⟨m, cap, X, F, hRe, hrx⟩ := hb5.b
        subst hRe
        obtain ⟨P2, hP2⟩ : ∃ P2, P2 = P3 := ⟨_, rfl⟩
        rw [← hP2] at hbw dj
        rw [← hV] at KR hbw hrx ⊢
        clear hb5 Hb5 hP2
        have c0 := hrx.c0
        have k1 := hrx.k1
        have k2 := hrx.k2
        have hn32 := hrx.gd.n2
        obtain ⟨NN, hN⟩ : ∃ NN, NN = C.ms.length := ⟨_, rfl⟩
        rw [← hN] at c0 k1 hn32
        have HNN := hid hN
        have HRX := hid hrx
        have HBW := hid hbw
        have HDJ := hid dj
        have HKR := hid KR
        have HRt : Hid (∀ S ∈ C.ms, Right S) := hrx.gd.rt
        clear hN hrx hbw dj KR hV
        go_wp2_with fail
        go_loopw [159] (fun i wr => ∃ (j : Nat) (A : BS), j ≤ NN ∧ i = .int .i64 j ∧ Hid (Nz Bw w V wr x P2 A) ∧ Hid (Ak A C)) (fun i _ => NN - (intOf i).toNat)
        case atStart => exact ⟨0, C, by omega, by go_num, Nz.refl HBW.out, Ak.refl C⟩
        case round =>
          clear c0
          obtain ⟨j, A, hj, rfl, HX, HA⟩ := hrel
          by_cases hjn : j < NN
          · have hjB : j < C.ms.length := by rw [← HNN.out]; exact hjn
            obtain ⟨V9, hV9⟩ : ∃ V9, V9 = wr := ⟨_, rfl⟩
            rw [← hV9] at HX ⊢
            have rx9 : RX w V9 y m cap X F C := by
              obtain ⟨_, _, q2, _⟩ := HX.out
              exact HRX.out.sp q2 HDJ.out.symm
            have ar := rx9.ar j hjB
            obtain ⟨Z, _, ⟨gs, cg, wv, _, hri, _⟩, _⟩ := rx9.atX j hjB
            have d0 := hri.c0
            have d1 := hri.k1
            have d2 := hri.k2
            have hl256 := hri.fine.n2
            obtain ⟨z, hz⟩ : ∃ z, z = X.getD j 0 := ⟨_, rfl⟩
            rw [← hz] at ar d0
            have HZ := hid hz
            obtain ⟨S, hS⟩ : ∃ S, S = C.ms.getD j noM := ⟨_, rfl⟩
            rw [← hS] at d0 d1 hl256
            have HS := hid hS
            obtain ⟨L, hL⟩ : ∃ L, L = S.las.length := ⟨_, rfl⟩
            rw [← hL] at d0 d1 hl256
            have HL := hid hL
            clear hz hS hL rx9 hri hV9
            go_wp2_with fail
            go_loopw [169] (fun i wr => ∃ (t : Nat) (A : BS), t ≤ L ∧ i = .int .i64 t ∧ Hid (Nz Bw w V wr x P2 A) ∧ Hid (Ak A C)) (fun i _ => L - (intOf i).toNat)
            case atStart => exact ⟨0, A, by omega, by go_num, HX, HA⟩
            case round =>
              clear HX HA ar d0
              obtain ⟨t, A', ht, rfl, HX, HA⟩ := hrel
              by_cases htl : t < L
              · have hjA : j < A'.ms.length := by rw [HA.out.n]; exact hjB
                have KX := HX.out.below OL.bw HBW.out HKR.out
                obtain ⟨P3, h3, s3, n3⟩ := HX.out
                obtain ⟨zz, Q3, hmem, how, hnz⟩ := bw_at h3 hjA
                have hrd := ow_read how KX (t : Int)
                have alk := HA.out.al j hjB
                rw [← HS.out] at alk
                have hR3 : Right (A'.ms.getD j noM) := h3.gd.rt _ (mem_at hjA)
                have hl3 : (A'.ms.getD j noM).row.length ≤ A'.g := h3.gd.rl _ (mem_at hjA)
                have hRS : Right S := by rw [HS.out]; exact HRt.out _ (mem_at hjB)
                obtain ⟨A2, hA2⟩ : ∃ A2, A2 = put A' (j : Int) (rd (A'.ms.getD j noM) (t : Int)) := ⟨_, rfl⟩
                have hak : Hid (Ak A2 C) := by rw [hA2]; exact HA.out.read j hjB (t : Int)
                have HNX : Hid (∀ w', Nx w wr w' zz Q3 (rd (A'.ms.getD j noM) (t : Int)) → Nz Bw w V w' x P2 A2) := fun w' nx => by
                  rw [hA2]
                  obtain ⟨P4, y1, y2, y3⟩ := hnz w' _ nx (hR3.rd _) (by unfold rd; split <;> exact hl3)
                  exact ⟨P4, y1, s3.then y2 n3, n3.trans y3 s3.size⟩
                obtain ⟨E, hE⟩ : ∃ E, E = rcE (A'.ms.getD j noM) (t : Int) := ⟨_, rfl⟩
                obtain ⟨sR, hsR⟩ : ∃ sR, sR = rdS (A'.ms.getD j noM) (t : Int) := ⟨_, rfl⟩
                have hlive : S.dead = false → E = 0 ∧ sR = (pl S.las S.row).getD t noS := fun hd => by
                  have hd3 : (A'.ms.getD j noM).dead = false := by rw [alk.dead]; exact hd
                  have hl : t < (A'.ms.getD j noM).las.length := by rw [alk.las, ← HL.out]; exact htl
                  refine ⟨by rw [hE]; exact rc_in hd3 hl, ?_⟩
                  rw [hsR, rd_in hd3 hl, alk.now, hRS.live hd]
                rw [← hE, ← hsR] at hrd
                have HLV := hid hlive
                clear hE hsR hA2 hnz hR3 hl3 hRS how h3 s3 n3 hlive alk
                go_wp2_with fail
                refine hmem.mono ?_
                rintro e W2 ⟨rfl, rfl⟩
                go_wp2_with fail
                refine hrd.mono ?_
                rintro e W3 ⟨rfl, nx⟩
                have nz3 := HNX.out W3 nx
                have hrx3 : RX w W3 y m cap X F C := by
                  obtain ⟨_, _, q2, _⟩ := nz3
                  exact HRX.out.sp q2 HDJ.out.symm
                obtain ⟨Z3, _, ⟨gs3, cg3, wv3, _, hri, _⟩, _⟩ := hrx3.atX j hjB
                rw [← HS.out, ← HZ.out] at hri
                have cd := hri.c2
                have hnow := now_any hri t (by rw [← HL.out]; exact htl)
                have NZ3 := hid nz3
                clear nx hrd hmem HNX hrx3 hri nz3 KX
                cases hdd : S.dead with
                | true =>
                  rw [hdd] at cd
                  clear hdd hnow HLV
                  go_wp2
                  go_roundw
                  case rel => exact ⟨t + 1, A2, by omega, by go_num, NZ3, hak⟩
                  case measure => simp [intOf]; omega
                | false =>
                  rw [hdd] at cd
                  obtain ⟨rfl, hsE⟩ := HLV.out hdd
                  rw [← hsE] at hnow
                  clear hdd HLV hsE
                  go_wp2_with fail
                  refine hnow.mono ?_
                  rintro e W4 ⟨rfl, rfl⟩
                  go_wp2
                  go_roundw
                  case rel => exact ⟨t + 1, A2, by omega, by go_num, NZ3, hak⟩
                  case measure => simp [intOf]; omega
              · obtain rfl : t = L := by omega
                go_wp2
                go_roundw
                case rel => exact ⟨j + 1, A', by omega, by go_num, HX, HA⟩
                case measure => simp [intOf]; omega
          · obtain rfl : j = NN := by omega
            have HKX := hid (HX.out.below OL.bw HBW.out HKR.out)
            go_wp2_with fail
            refine (fmt_nil 0 0 _).mono ?_
            rintro e W9 ⟨rfl, k9⟩
            go_wp2
            go_ret
            exact ⟨rfl, HKX.out.trans k9⟩
theorem walk (w : World) (a0 b0 : Int) (a1 b1 : Int) (a2 : Value) (l2 : List A5) (w0 : (Lit.int .i64 a0).wf = true) (x0 : (Lit.int .i64 b0).wf = true) (w1 : (Lit.int .i64 a1).wf = true) (x1 : (Lit.int .i64 b1).wf = true) (w2 : Acts5 w a2 l2) :
    Calls Tryz.prog 4 #[.agg #[.int .i64 a0, .int .i64 b0], .agg #[.int .i64 a1, .int .i64 b1], a2] w fun e w' => e = .returned (.bool true) ∧ Kp w w' := by
  exact walkN w a0 b0 a1 b1 a2 l2 w2

set_option maxRecDepth 100000 in
theorem lifted (os : Os) (started : os.Started) (H : Type) (enc : TypeId × Value → H) :
    ReturnsInHanded {} Tryz.checked os 4 .any (Rows.boardFormatsSpec.pre6 enc Tryz.prog Tryz.f4 Rows.boardFormatsRow.domain false) (Rows.boardFormatsSpec.post enc Tryz.prog Tryz.f4 false true false false) := by
  refine returnsInHanded_of_change (C := Tryz.checked) own started (by kernel_rfl) Tryz.func4
    (ChangeSpec.witness6 (enc := enc) (C := Tryz.checked) false ⟨#[], #[.agg #[.int .i64 0, .int .i64 0], .agg #[.int .i64 0, .int .i64 0], .slice none 0 0], []⟩ 8 (by kernel_rfl) (by kernel_rfl) (by kernel_rfl) (by kernel_rfl)) ?_
  intro W base args ds gs before hval0 hW hcnd _
  have hval : ∀ (j : Nat) t v, Tryz.f4.params[j]? = some t → args[j]? = some v → Value.okWide Tryz.prog W .any base t v := hval0
  have hW' := hW
  have hlt := hW.lt
  obtain ⟨p, q, hA0, hV, rfl, hfz, hnd⟩ := hW
  have hA : DataW.TrodAll enc Tryz.prog W 0 (fun _ => true) true Tryz.f4.params.toList args.toList ds p := hA0
  have hAk := hA
  rw [Tryz.params4] at hA hval
  obtain ⟨v0, vs0, d0, ds0, p0, q0, hargs, rfl, rfl, h0, r0⟩ := trodAll_cons hA
  obtain ⟨v1, vs1, d1, ds1, p1, q1, rfl, rfl, rfl, h1, r1⟩ := trodAll_cons r0
  obtain ⟨v2, vs2, d2, ds2, p2, q2, rfl, rfl, rfl, h2, r2⟩ := trodAll_cons r1
  obtain ⟨rfl, rfl, rfl⟩ := trodAll_nil r2
  obtain rfl : args = #[v0, v1, v2] := by cases args; simp_all
  obtain ⟨rfl, rfl⟩ := trodVars_none hV
  obtain ⟨a0, b0, rfl, w0, x0⟩ := open_ints2 Tryz.underlying22 Tryz.underlying3 cellsI cellsJ (hval 0 22 v0 rfl rfl) h0
  obtain ⟨a1, b1, rfl, w1, x1⟩ := open_ints2 Tryz.underlying22 Tryz.underlying3 cellsI cellsJ (hval 1 22 v1 rfl rfl) h1
  obtain ⟨l2, w2⟩ := open_as5 (hval 2 23 v2 rfl rfl) h2
  clear hA0 hval0
  simp only [List.append_nil] at hW' hAk hlt
  refine (walk W a0 b0 a1 b1 v2 l2 w0 x0 w1 x1 w2).mono fun e W' ⟨he, hg⟩ => ?_
  subst he
  exact ⟨_, rfl, post_kp (pv := []) hW' (fun _ _ _ => (trodAll_cons_mk (shut_bool Tryz.underlying4 _) trodAll_mk0)) (fun sp hsp => trodAll_stays laidOut (by rw [Tryz.params4]; exact of_decide_eq_true (by kernel_rfl)) hAk (fun x hx => Below.same hg (hlt x hx)) hsp) (fun _ _ => rfl) (by simp) hg⟩

theorem over : Rows.boardFormatsRow.holds Tryz.pinned (OpenSpec.ofChange Rows.boardFormatsSpec) :=
  OpenClaim.holds_of_wide 4 Tryz.f4 rfl rfl rfl rfl rfl rfl rfl ⟨rfl, rfl, rfl, rfl, rfl⟩ rfl rfl rfl rfl rfl (by kernel_rfl) Tryz.func4 (by kernel_rfl)
    (of_decide_eq_true (by kernel_rfl)) (by unfold Func.isWrapper; first | (rw [if_pos (by decide +kernel)]; kernel_rfl) | (rw [if_neg (by decide +kernel)]; exact ⟨rfl, rfl⟩))
    (fun os started H enc _ => lifted os started H enc)

end Go.Proofs.YtinpkfdmellleaaGreat.boardFormats
namespace Go.Proofs.YtinpkfdmellleaaGreat
theorem boardFormats_holds : Rows.BoardFormatsSaid := boardFormats.over
end Go.Proofs.YtinpkfdmellleaaGreat
