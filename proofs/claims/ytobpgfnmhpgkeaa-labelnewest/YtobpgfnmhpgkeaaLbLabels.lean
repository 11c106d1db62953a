/-
  The contract of the laws' own labels: the program's and the document's label of plain data. Conditions: that the data's lists lie in memory.
-/
import Derived.Test.YtobpgfnmhpgkeaaLbTwo
import Derived.Deep.RegionLaw
import Derived.Deep.DeepCutAuto
namespace Go.Proofs.Ytobpgfnmhpgkeaa
open Go.RowKit Plain
set_option linter.unusedVariables false

theorem hid {p : Prop} (h : p) : Hid p := h
theorem sizeI (W : World) : (sizeOf (Try.prog.elem 22)).run Try.prog W = .ok 1 W := by
  obtain ⟨i0, hi, hz0, hz1, hz2⟩ := info_parts info_int
  have he : Try.prog.elem 22 = 3 := by kernel_rfl
  rw [he]
  simp [sizeOf, typeInfo, hi, hz1]
theorem undI : Try.prog.underlying 22 = some (.slice (Try.prog.elem 22)) := by kernel_rfl
def cutB (a : Option Addr) (cap : Nat) : Option Addr := if cap = 0 then a else a.map (·.add 0)
theorem run_headI (a : Option Addr) (n cap j : Nat) (hj : j ≤ cap) (W : World) : (Instr.slice 22 (.slice a n cap) none (some (.int .i64 (j : Int))) none).run Try.prog W = .ok (.slice (cutB a cap) j cap) W := by
  rw [run_slice_h W 22 a n cap undI .i64 j (by omega) (by omega), sizeI]
  simp [sliced, cutB, Result.andThen]
theorem cutB_some (g off cap : Nat) : cutB (some ⟨g, off, none⟩) cap = some ⟨g, off, none⟩ := by
  unfold cutB
  split
  · rfl
  · simp [Addr.add]
/-- what else must stay while the lists grow: the data, two labels as they were made. -/
structure Tz (w : World) (base r0 r1 r2 : Nat) (n s ep : Int) (rs rm : Value) (wr : World) : Prop where
  raw : Lc wr r0 n s ep rs rm
  z1 : Lc wr r1 0 0 0 (.slice none 0 0) (.slice none 0 0)
  z2 : Lc wr r2 0 0 0 (.slice none 0 0) (.slice none 0 0)
  g1 : ∀ o, wr.frozen? ⟨r1, o, none⟩ = false
  g2 : ∀ o, wr.frozen? ⟨r2, o, none⟩ = false
  k : Kp w wr
  h0 : r0 < base
  h1 : r1 < base
  h2 : r2 < base
  hw : w.heap.size ≤ base
  hb : base ≤ wr.heap.size
section
variable {w : World} {base r0 r1 r2 : Nat} {n s ep : Int} {rs rm : Value} {wr w' : World}
theorem Tz.kept (h : Tz w base r0 r1 r2 n s ep rs rm wr) (k : Kp wr w') : Tz w base r0 r1 r2 n s ep rs rm w' :=
  ⟨h.raw.kept k, h.z1.kept k, h.z2.kept k, fun o => (Below.frozen (p := ⟨r1, o, none⟩) k (Nat.lt_of_lt_of_le h.h1 h.hb)).trans (h.g1 o), fun o => (Below.frozen (p := ⟨r2, o, none⟩) k (Nat.lt_of_lt_of_le h.h2 h.hb)).trans (h.g2 o), h.k.trans k, h.h0, h.h1, h.h2, h.hw, Nat.le_trans h.hb k.size⟩
theorem Tz.app (h : Tz w base r0 r1 r2 n s ep rs rm wr) {v v' : Value} (a : Ap wr w' v v') (hv : ∀ b, v.ownBlock = some b → base ≤ b) : Tz w base r0 r1 r2 n s ep rs rm w' := by
  have far : ∀ b, b < base → v.ownBlock ≠ some b := fun b hb e => by have := hv b e; omega
  exact ⟨a.lc (far _ h.h0) h.raw, a.lc (far _ h.h1) h.z1, a.lc (far _ h.h2) h.z2, fun o => (a.frozen (far _ h.h1) (Nat.lt_of_lt_of_le h.h1 h.hb)).trans (h.g1 o), fun o => (a.frozen (far _ h.h2) (Nat.lt_of_lt_of_le h.h2 h.hb)).trans (h.g2 o), a.kp h.k (fun b hb => by have := hv b hb; have := h.hw; omega), h.h0, h.h1, h.h2, h.hw, Nat.le_trans h.hb a.size⟩
theorem Tz.set (h : Tz w base r0 r1 r2 n s ep rs rm wr) {X : Nat} (n0 : r0 ≠ X) (n1 : r1 ≠ X) (n2 : r2 ≠ X) (hx : w.heap.size ≤ X) (o : Nat) (u : Value) : Tz w base r0 r1 r2 n s ep rs rm (wr.setCell ⟨X, o, none⟩ u) := by
  have t : Trd X wr (wr.setCell ⟨X, o, none⟩ u) := (Trd.refl X wr).setCell o _
  have hz := t.size
  have hb := h.hb
  exact ⟨t.lc n0 h.raw, t.lc n1 h.z1, t.lc n2 h.z2, fun o => by rw [World.frozen?_setCell]; exact h.g1 o, fun o => by rw [World.frozen?_setCell]; exact h.g2 o, t.kp w h.k hx, h.h0, h.h1, h.h2, h.hw, by omega⟩
end
theorem fzn (w : World) (cs : Array Value) (t : TypeId) (b : Nat) (hb : b = w.heap.size) (o : Nat) : (w.alloc (.cells cs t)).frozen? ⟨b, o, none⟩ = false := by subst hb; simp
theorem frz2 {w w' : World} {b : Nat} (k : Kp w w') (hb : b < w.heap.size) {o : Nat} (z : w.frozen? ⟨b, o, none⟩ = false) : w'.frozen? ⟨b, o, none⟩ = false := (Below.frozen (p := ⟨b, o, none⟩) k hb).trans z
theorem take_snoc (l : List Int) (k m : Nat) (hk : k < m) (hm : m ≤ l.length) : l.take k ++ [l.getD k 0] = l.take (k + 1) := by
  rw [List.take_add_one, List.getElem?_eq_getElem (by omega), List.getD_eq_getElem?_getD, List.getElem?_eq_getElem (by omega)]
  rfl
set_option maxRecDepth 100000 in
set_option maxHeartbeats 8000000 in
theorem labels_any (n s ep : Int) (rs rm : Value) (sts mks : List Int) (w : World) (h1 : Nl w rs sts) (h2 : Nl w rm mks) : Calls Try.prog 9 #[lV n s ep rs rm] w fun e w' => ∃ sv1 mv1 sv2 mv2, e = .returned (.tuple #[lV n s ep sv1 mv1, lV n s ep sv2 mv2]) ∧ (Nl w' sv1 (sts.take 40) ∧ Nl w' mv1 (mks.take 40)) ∧ (Nl w' sv2 (sts.take 40) ∧ Nl w' mv2 (mks.take 40)) ∧ Kp w w' := by
  obtain ⟨a1, g1, o1, p1, rfl, A1⟩ := h1
  obtain ⟨a2, g2, o2, p2, rfl, A2⟩ := h2
  obtain ⟨N1, hN1⟩ : ∃ N, N = sts.length := ⟨_, rfl⟩
  obtain ⟨N2, hN2⟩ : ∃ N, N = mks.length := ⟨_, rfl⟩
  obtain ⟨t1, ht1⟩ : ∃ t, t = min N1 40 := ⟨_, rfl⟩
  obtain ⟨t2, ht2⟩ : ∃ t, t = min N2 40 := ⟨_, rfl⟩
  have i1 := A1.ha
  have i2 := A2.ha
  have le1 := A1.le
  have le2 := A2.le
  have HA1 : Hid (∀ j, j < N1 → w.cell? ⟨g1, o1 + j, none⟩ = some (.int .i64 (sts.getD j 0))) := fun j hj => A1.c j (by omega)
  have HA2 : Hid (∀ j, j < N2 → w.cell? ⟨g2, o2 + j, none⟩ = some (.int .i64 (mks.getD j 0))) := fun j hj => A2.c j (by omega)
  have HX1 : Hid (∀ k, k < t1 → sts.take k ++ [sts.getD k 0] = sts.take (k + 1)) := fun k hk => take_snoc sts k t1 hk (by omega)
  have HX2 : Hid (∀ k, k < t2 → mks.take k ++ [mks.getD k 0] = mks.take (k + 1)) := fun k hk => take_snoc mks k t2 hk (by omega)
  have HE1 : Hid (sts.take t1 = sts.take 40) := by
    show sts.take t1 = _
    by_cases h : N1 ≤ 40
    · rw [List.take_of_length_le (by omega), List.take_of_length_le (by omega)]
    · rw [show t1 = 40 by omega]
  have HE2 : Hid (mks.take t2 = mks.take 40) := by
    show mks.take t2 = _
    by_cases h : N2 ≤ 40
    · rw [List.take_of_length_le (by omega), List.take_of_length_le (by omega)]
    · rw [show t2 = 40 by omega]
  have HLn1 : Hid (∀ k, k ≤ t1 → (sts.take k).length = k) := fun k hk => by rw [List.length_take]; omega
  have HLn2 : Hid (∀ k, k ≤ t2 → (mks.take k).length = k) := fun k hk => by rw [List.length_take]; omega
  have b1 : t1 ≤ N1 := by omega
  have b2 : t2 ≤ N2 := by omega
  have b3 : t1 ≤ 40 := by omega
  have b4 : t2 ≤ 40 := by omega
  have m1 : N1 ≤ 9223372036854775807 := by have := A1.le; have := A1.mx; omega
  have m2 : N2 ≤ 9223372036854775807 := by have := A2.le; have := A2.mx; omega
  have hmin1 : ∀ (ts : Array TypeId) (ty : TypeId) (w : World), (Builtin.min_ ts ty #[.int .i64 (N1 : Int), .int .i64 40]).run Try.prog w = .ok (.int .i64 (t1 : Int)) w := fun ts ty w => by
    rw [imin]; congr 2; omega
  have hmin2 : ∀ (ts : Array TypeId) (ty : TypeId) (w : World), (Builtin.min_ ts ty #[.int .i64 (N2 : Int), .int .i64 40]).run Try.prog w = .ok (.int .i64 (t2 : Int)) w := fun ts ty w => by
    rw [imin]; congr 2; omega
  rw [← hN1] at i1 le1 ⊢
  rw [← hN2] at i2 le2 ⊢
  have hsl1 := fun W => run_headI a1 N1 p1 t1 (by omega) W
  have hsl2 := fun W => run_headI a2 N2 p2 t2 (by omega) W
  obtain ⟨d1, hd1⟩ : ∃ d, d = cutB a1 p1 := ⟨_, rfl⟩
  obtain ⟨d2, hd2⟩ : ∃ d, d = cutB a2 p2 := ⟨_, rfl⟩
  rw [← hd1] at hsl1
  rw [← hd2] at hsl2
  have j1 : 0 < t1 → d1 = some ⟨g1, o1, none⟩ := fun h => by rw [hd1, i1 (by omega), cutB_some]
  have j2 : 0 < t2 → d2 = some ⟨g2, o2, none⟩ := fun h => by rw [hd2, i2 (by omega), cutB_some]
  clear A1 A2 hN1 hN2 ht1 ht2 i1 i2 hd1 hd2
  have l0 := Lc.new w n s ep (.slice a1 N1 p1) (.slice a2 N2 p2) 24
  obtain ⟨W0, hW0⟩ : ∃ W, W = ((((w.alloc (.cells #[.int .i64 n, .int .i64 s, .int .i64 ep, .slice a1 N1 p1, .slice a2 N2 p2] 24)).alloc (.cells #[.int .i64 0, .int .i64 0, .int .i64 0, .slice none 0 0, .slice none 0 0] 29)).alloc (.cells #[.int .i64 0, .int .i64 0, .int .i64 0, .slice none 0 0, .slice none 0 0] 32)).alloc (.cells #[.int .i64 n, .int .i64 s, .int .i64 ep, .slice none 0 0, .slice none 0 0] 29)).alloc (.cells #[.int .i64 n, .int .i64 s, .int .i64 ep, .slice none 0 0, .slice none 0 0] 32) := ⟨_, rfl⟩
  have HW0 := hid hW0
  have hsz : W0.heap.size = w.heap.size + 5 := by rw [hW0]; simp
  have HTz : Hid (Tz w (w.heap.size + 5) w.heap.size (w.heap.size + 1) (w.heap.size + 1 + 1) n s ep (.slice a1 N1 p1) (.slice a2 N2 p2) W0) := by
    have q1 := Lc.new (w.alloc (.cells #[.int .i64 n, .int .i64 s, .int .i64 ep, .slice a1 N1 p1, .slice a2 N2 p2] 24)) 0 0 0 (.slice none 0 0) (.slice none 0 0) 29
    have q2 := Lc.new ((w.alloc (.cells #[.int .i64 n, .int .i64 s, .int .i64 ep, .slice a1 N1 p1, .slice a2 N2 p2] 24)).alloc (.cells #[.int .i64 0, .int .i64 0, .int .i64 0, .slice none 0 0, .slice none 0 0] 29)) 0 0 0 (.slice none 0 0) (.slice none 0 0) 32
    simp only [asz] at q1 q2
    refine ⟨?_, ?_, ?_, fun o => ?_, fun o => ?_, ?_, by omega, by omega, by omega, by omega, by omega⟩
    · rw [hW0]; exact l0.kept (((((Kp.refl _).alloc _).alloc _).alloc _).alloc _)
    · rw [hW0]; exact q1.kept ((((Kp.refl _).alloc _).alloc _).alloc _)
    · rw [hW0]; exact q2.kept (((Kp.refl _).alloc _).alloc _)
    · rw [hW0]; exact frz2 ((((Kp.refl _).alloc _).alloc _).alloc _) (by simp) (fzn _ _ _ _ (by simp) o)
    · rw [hW0]; exact frz2 (((Kp.refl _).alloc _).alloc _) (by simp) (fzn _ _ _ _ (by simp) o)
    · rw [hW0]; exact (((((Kp.refl w).alloc _).alloc _).alloc _).alloc _).alloc _
  have HT0 : Hid (Tp (w.heap.size + 5) (w.heap.size + 1 + 1 + 1) (w.heap.size + 1 + 1 + 1 + 1) n s ep W0 (.slice none 0 0) (.slice none 0 0) (.slice none 0 0) (.slice none 0 0) (.slice none 0 0) (.slice none 0 0) (.slice none 0 0) (.slice none 0 0) (sts.take 0) (mks.take 0) (sts.take 0) (mks.take 0)) := by
    have q1 := Lc.new (((w.alloc (.cells #[.int .i64 n, .int .i64 s, .int .i64 ep, .slice a1 N1 p1, .slice a2 N2 p2] 24)).alloc (.cells #[.int .i64 0, .int .i64 0, .int .i64 0, .slice none 0 0, .slice none 0 0] 29)).alloc (.cells #[.int .i64 0, .int .i64 0, .int .i64 0, .slice none 0 0, .slice none 0 0] 32)) n s ep (.slice none 0 0) (.slice none 0 0) 29
    have q2 := Lc.new ((((w.alloc (.cells #[.int .i64 n, .int .i64 s, .int .i64 ep, .slice a1 N1 p1, .slice a2 N2 p2] 24)).alloc (.cells #[.int .i64 0, .int .i64 0, .int .i64 0, .slice none 0 0, .slice none 0 0] 29)).alloc (.cells #[.int .i64 0, .int .i64 0, .int .i64 0, .slice none 0 0, .slice none 0 0] 32)).alloc (.cells #[.int .i64 n, .int .i64 s, .int .i64 ep, .slice none 0 0, .slice none 0 0] 29)) n s ep (.slice none 0 0) (.slice none 0 0) 32
    simp only [asz] at q1 q2
    have nn : Apt (.slice none 0 0) (.slice none 0 0) := fun k hk => (by cases hk)
    refine ⟨?_, ?_, fun o => ?_, fun o => ?_, Oi.nil _ _ _, Oi.nil _ _ _, Oi.nil _ _ _, Oi.nil _ _ _, nn, nn, nn, nn, nn, nn, by omega, by omega, by omega, by omega⟩
    · rw [hW0]; exact q1.kept ((Kp.refl _).alloc _)
    · rw [hW0]; exact q2
    · rw [hW0]; exact frz2 ((Kp.refl _).alloc _) (by simp) (fzn _ _ _ _ (by simp) o)
    · rw [hW0]; exact fzn _ _ _ _ (by simp) o
  unfold lV
  clear hW0 l0
  go_enter Try.func9, Try.ntmps9
  go_wp2
  rw [← HW0.out]
  clear HW0
  go_loopw [34] (fun i wr => ∃ (k : Nat) (v1 v3 : Value), k ≤ t1 ∧ i = .int .i64 k ∧ Hid (Tp (w.heap.size + 5) (w.heap.size + 1 + 1 + 1) (w.heap.size + 1 + 1 + 1 + 1) n s ep wr v1 (.slice none 0 0) v3 (.slice none 0 0) v1 (.slice none 0 0) v3 (.slice none 0 0) (sts.take k) (mks.take 0) (sts.take k) (mks.take 0)) ∧ Hid (Tz w (w.heap.size + 5) w.heap.size (w.heap.size + 1) (w.heap.size + 1 + 1) n s ep (.slice a1 N1 p1) (.slice a2 N2 p2) wr)) (fun i _ => t1 - (intOf i).toNat)
  case atStart => exact ⟨0, _, _, Nat.zero_le _, rfl, HT0, HTz⟩
  case round =>
    clear HT0 HTz
    obtain ⟨k, v1, v3, hk, rfl, HT, HTz⟩ := hrel
    obtain ⟨x1, y1, z1, rfl⟩ := HT.out.o1.shape
    obtain ⟨x3, y3, z3, rfl⟩ := HT.out.o3.shape
    by_cases hlt : k < t1
    · obtain ⟨⟨ca0, ca1, ca2, ca3, ca4⟩, ⟨cb0, cb1, cb2, cb3, cb4⟩, za, zb, _, _, _, _, _, _, _, _, _, _, hla, hlb, _, hlc⟩ := HT.out
      obtain rfl := j1 (by omega)
      have d0 := HTz.out.k.held (HA1.out k (by omega))
      have HX := HX1.out k hlt
      have HLen := hid (HLn1.out k hk)
      obtain ⟨x, hx⟩ : ∃ x, x = sts.getD k 0 := ⟨_, rfl⟩
      rw [← hx] at d0 HX
      have HXX := hid HX
      have hA1 : w.heap.size + 1 + 1 + 1 < wr.heap.size := by omega
      have hB1 : w.heap.size + 1 + 1 + 1 + 1 < wr.heap.size := by omega
      have hq3 : ∀ q r : Obj, ((wr.alloc q).alloc r).cell? ⟨w.heap.size + 1 + 1 + 1, 3, none⟩ = some (.slice x1 y1 z1) := fun q r => (((Kp.refl wr).alloc q).alloc r).held ca3
      have hr3 : ∀ q r : Obj, ((wr.alloc q).alloc r).cell? ⟨w.heap.size + 1 + 1 + 1 + 1, 3, none⟩ = some (.slice x3 y3 z3) := fun q r => (((Kp.refl wr).alloc q).alloc r).held cb3
      have HNE := hid (show w.heap.size ≠ w.heap.size + 1 + 1 + 1 ∧ w.heap.size + 1 ≠ w.heap.size + 1 + 1 + 1 ∧ w.heap.size + 1 + 1 ≠ w.heap.size + 1 + 1 + 1 ∧ w.heap.size ≤ w.heap.size + 1 + 1 + 1 from ⟨by omega, by omega, by omega, by omega⟩)
      have HNE2 := hid (show w.heap.size ≠ w.heap.size + 1 + 1 + 1 + 1 ∧ w.heap.size + 1 ≠ w.heap.size + 1 + 1 + 1 + 1 ∧ w.heap.size + 1 + 1 ≠ w.heap.size + 1 + 1 + 1 + 1 ∧ w.heap.size ≤ w.heap.size + 1 + 1 + 1 + 1 from ⟨by omega, by omega, by omega, by omega⟩)
      clear hx HX HA1 HA2 HX1 HX2 HE1 HE2 HLn1 HLn2 hmin2 hsl2 hmin1 hsl1 j2 le1 le2 b1 b2 m1 m2 hsz ca0 ca1 ca2 cb0 cb1 cb2 hla hlb
      go_wp2_with fail
      clear d0
      go_region_law (first
        | (refine step_app_i eiS (by rfl) (.tmp 39) (.tmp 41) (by rfl) (w.heap.size + 5) _ (sts.take k) (by rfl) (HT.out.kept (by first | exact ((Kp.refl wr).alloc _).drew | exact (((Kp.refl wr).alloc _).alloc _).drew | exact (Kp.refl wr).drew | exact ((Kp.refl wr).drew).alloc _)).o1 x _ (by rfl) (by first | (rw [World.cell?_drew, World.cell?_alloc_at _ _ _ _ rfl]; rfl) | (rw [World.cell?_drew]; exact ((Kp.refl _).alloc _).held (by rw [World.cell?_alloc_at _ _ _ _ rfl]; rfl)) | (rw [World.cell?_drew, World.cell?_alloc_at _ _ _ _ (by simp)]; rfl) | (rw [World.cell?_alloc_at _ _ _ _ rfl]; rfl)) (by rw [HLen.out]; omega) (by exact (HT.out.kept (by first | exact ((Kp.refl wr).alloc _).drew | exact (((Kp.refl wr).alloc _).alloc _).drew | exact (Kp.refl wr).drew | exact ((Kp.refl wr).drew).alloc _)).hb) ?_; intro u1 w9 f9 a9; have HTA := hid ((HT.out.kept (by first | exact ((Kp.refl wr).alloc _).drew | exact (((Kp.refl wr).alloc _).alloc _).drew | exact (Kp.refl wr).drew | exact ((Kp.refl wr).drew).alloc _)).app1 a9 f9); have HTAz := hid ((HTz.out.kept (by first | exact ((Kp.refl wr).alloc _).drew | exact (((Kp.refl wr).alloc _).alloc _).drew | exact (Kp.refl wr).drew | exact ((Kp.refl wr).drew).alloc _)).app a9 (fun b hb => (HT.out.o1.low b hb).1)); have HC : Hid (∀ b o u, wr.heap.size ≤ b → World.cell? _ ⟨b, o, none⟩ = some u → w9.cell? ⟨b, o, none⟩ = some u) := fun b o u hb hc => a9.cell (fun e => by have := (HT.out.o1.low b e).2; omega) hc; obtain ⟨b1, m1, q1, rfl⟩ := f9.shape; clear f9 a9; have ca3 := HTA.out.la.c3; have cb3 := HTA.out.lb.c3; have za := HTA.out.fa; have zb := HTA.out.fb; have hlc := HTA.out.hb; have hAw1 : w.heap.size + 1 + 1 + 1 < w9.heap.size := (by omega); have hBw1 : w.heap.size + 1 + 1 + 1 + 1 < w9.heap.size := (by omega))
        | (refine step_app_i eiI (by rfl) (.tmp 44) (.tmp 46) (by rfl) (w.heap.size + 5) _ (sts.take k) (by rfl) (HTA.out.kept (by first | exact Kp.refl _ | exact (Kp.refl _).alloc _)).o3 x _ (by rfl) (by first | (rw [World.cell?_alloc_at _ _ _ _ rfl]; rfl) | (refine HC.out _ _ _ (by omega) ?_; first | (rw [World.cell?_drew, World.cell?_alloc_at _ _ _ _ rfl]; rfl) | (rw [World.cell?_drew]; exact ((Kp.refl _).alloc _).held (by rw [World.cell?_alloc_at _ _ _ _ rfl]; rfl)) | (rw [World.cell?_drew, World.cell?_alloc_at _ _ _ _ (by simp)]; rfl))) (by rw [HLen.out]; omega) (by exact (HTA.out.kept (by first | exact Kp.refl _ | exact (Kp.refl _).alloc _)).hb) ?_; intro u3 w10 f9 a9; have HTF := hid ((HTA.out.kept (by first | exact Kp.refl _ | exact (Kp.refl _).alloc _)).app3 a9 f9); have HTFz := hid ((HTAz.out.kept (by first | exact Kp.refl _ | exact (Kp.refl _).alloc _)).app a9 (fun b hb => (HTA.out.o3.low b hb).1)); obtain ⟨b3, m3, q3, rfl⟩ := f9.shape; clear f9 a9; have ca3 := HTF.out.la.c3; have cb3 := HTF.out.lb.c3; have za := HTF.out.fa; have zb := HTF.out.fb; have hlc := HTF.out.hb; have hAw3 : w.heap.size + 1 + 1 + 1 < w10.heap.size := (by omega); have hBw3 : w.heap.size + 1 + 1 + 1 + 1 < w10.heap.size := (by omega)))
      all_goals (
        have hh := (HTF.out.st1 (.slice b1 m1 q1)).st3 (.slice b3 m3 q3)
        rw [HXX.out] at hh
        have HH := hid hh
        have HZ := hid ((HTFz.out.set HNE.out.1 HNE.out.2.1 HNE.out.2.2.1 HNE.out.2.2.2 3 (.slice b1 m1 q1)).set HNE2.out.1 HNE2.out.2.1 HNE2.out.2.2.1 HNE2.out.2.2.2 3 (.slice b3 m3 q3))
        clear hh HTF HTFz HTA HTAz HC HLen HXX HNE HNE2 HT HTz
        go_wp2_with fail
        go_roundw
        case rel => exact ⟨k + 1, _, _, by omega, by go_num, HH, HZ⟩
        case measure => simp [intOf]; omega)
    · obtain rfl : t1 = k := by omega
      obtain ⟨d0, d1', d2', d3, d4⟩ := HTz.out.raw
      have HT2 := HT
      have HTz2 := HTz
      clear HT HTz
      go_wp2
      clear d0 d1' d2' d3 d4
      go_loopw [59] (fun i wr => ∃ (k : Nat) (v2 v4 : Value), k ≤ t2 ∧ i = .int .i64 k ∧ Hid (Tp (w.heap.size + 5) (w.heap.size + 1 + 1 + 1) (w.heap.size + 1 + 1 + 1 + 1) n s ep wr (.slice x1 y1 z1) v2 (.slice x3 y3 z3) v4 (.slice x1 y1 z1) v2 (.slice x3 y3 z3) v4 (sts.take t1) (mks.take k) (sts.take t1) (mks.take k)) ∧ Hid (Tz w (w.heap.size + 5) w.heap.size (w.heap.size + 1) (w.heap.size + 1 + 1) n s ep (.slice a1 N1 p1) (.slice a2 N2 p2) wr)) (fun i _ => t2 - (intOf i).toNat)
      case atStart => exact ⟨0, _, _, Nat.zero_le _, rfl, HT2, HTz2⟩
      case round =>
        clear HT2 HTz2
        obtain ⟨k, v2, v4, hk, rfl, HT, HTz⟩ := hrel
        obtain ⟨x2, y2, z2, rfl⟩ := HT.out.o2.shape
        obtain ⟨x4, y4, z4, rfl⟩ := HT.out.o4.shape
        by_cases hlt : k < t2
        · obtain ⟨⟨ca0, ca1, ca2, ca3, ca4⟩, ⟨cb0, cb1, cb2, cb3, cb4⟩, za, zb, _, _, _, _, _, _, _, _, _, _, hla, hlb, _, hlc⟩ := HT.out
          obtain rfl := j2 (by omega)
          have d0 := HTz.out.k.held (HA2.out k (by omega))
          have HX := HX2.out k hlt
          have HLen := hid (HLn2.out k hk)
          obtain ⟨x, hx⟩ : ∃ x, x = mks.getD k 0 := ⟨_, rfl⟩
          rw [← hx] at d0 HX
          have HXX := hid HX
          have hA1 : w.heap.size + 1 + 1 + 1 < wr.heap.size := by omega
          have hB1 : w.heap.size + 1 + 1 + 1 + 1 < wr.heap.size := by omega
          have hq3 : ∀ q r : Obj, ((wr.alloc q).alloc r).cell? ⟨w.heap.size + 1 + 1 + 1, 4, none⟩ = some (.slice x2 y2 z2) := fun q r => (((Kp.refl wr).alloc q).alloc r).held ca4
          have hr3 : ∀ q r : Obj, ((wr.alloc q).alloc r).cell? ⟨w.heap.size + 1 + 1 + 1 + 1, 4, none⟩ = some (.slice x4 y4 z4) := fun q r => (((Kp.refl wr).alloc q).alloc r).held cb4
          have HNE := hid (show w.heap.size ≠ w.heap.size + 1 + 1 + 1 ∧ w.heap.size + 1 ≠ w.heap.size + 1 + 1 + 1 ∧ w.heap.size + 1 + 1 ≠ w.heap.size + 1 + 1 + 1 ∧ w.heap.size ≤ w.heap.size + 1 + 1 + 1 from ⟨by omega, by omega, by omega, by omega⟩)
          have HNE2 := hid (show w.heap.size ≠ w.heap.size + 1 + 1 + 1 + 1 ∧ w.heap.size + 1 ≠ w.heap.size + 1 + 1 + 1 + 1 ∧ w.heap.size + 1 + 1 ≠ w.heap.size + 1 + 1 + 1 + 1 ∧ w.heap.size ≤ w.heap.size + 1 + 1 + 1 + 1 from ⟨by omega, by omega, by omega, by omega⟩)
          clear hx HX HA1 HA2 HX1 HX2 HE1 HE2 HLn1 HLn2 hmin1 hsl1 hmin2 hsl2 j1 le1 le2 b1 b2 m1 m2 hsz ca0 ca1 ca2 cb0 cb1 cb2 hla hlb
          go_wp2_with fail
          clear d0
          go_region_law (first
        | (refine step_app_i eiI (by rfl) (.tmp 64) (.tmp 66) (by rfl) (w.heap.size + 5) _ (mks.take k) (by rfl) (HT.out.kept (by first | exact ((Kp.refl wr).alloc _).drew | exact (((Kp.refl wr).alloc _).alloc _).drew | exact (Kp.refl wr).drew | exact ((Kp.refl wr).drew).alloc _)).o2 x _ (by rfl) (by first | (rw [World.cell?_drew, World.cell?_alloc_at _ _ _ _ rfl]; rfl) | (rw [World.cell?_drew]; exact ((Kp.refl _).alloc _).held (by rw [World.cell?_alloc_at _ _ _ _ rfl]; rfl)) | (rw [World.cell?_drew, World.cell?_alloc_at _ _ _ _ (by simp)]; rfl) | (rw [World.cell?_alloc_at _ _ _ _ rfl]; rfl)) (by rw [HLen.out]; omega) (by exact (HT.out.kept (by first | exact ((Kp.refl wr).alloc _).drew | exact (((Kp.refl wr).alloc _).alloc _).drew | exact (Kp.refl wr).drew | exact ((Kp.refl wr).drew).alloc _)).hb) ?_; intro u2 w9 f9 a9; have HTA := hid ((HT.out.kept (by first | exact ((Kp.refl wr).alloc _).drew | exact (((Kp.refl wr).alloc _).alloc _).drew | exact (Kp.refl wr).drew | exact ((Kp.refl wr).drew).alloc _)).app2 a9 f9); have HTAz := hid ((HTz.out.kept (by first | exact ((Kp.refl wr).alloc _).drew | exact (((Kp.refl wr).alloc _).alloc _).drew | exact (Kp.refl wr).drew | exact ((Kp.refl wr).drew).alloc _)).app a9 (fun b hb => (HT.out.o2.low b hb).1)); have HC : Hid (∀ b o u, wr.heap.size ≤ b → World.cell? _ ⟨b, o, none⟩ = some u → w9.cell? ⟨b, o, none⟩ = some u) := fun b o u hb hc => a9.cell (fun e => by have := (HT.out.o2.low b e).2; omega) hc; obtain ⟨b2, m2, q2, rfl⟩ := f9.shape; clear f9 a9; have ca4 := HTA.out.la.c4; have cb4 := HTA.out.lb.c4; have za := HTA.out.fa; have zb := HTA.out.fb; have hlc := HTA.out.hb; have hAw2 : w.heap.size + 1 + 1 + 1 < w9.heap.size := (by omega); have hBw2 : w.heap.size + 1 + 1 + 1 + 1 < w9.heap.size := (by omega))
        | (refine step_app_i eiI (by rfl) (.tmp 69) (.tmp 71) (by rfl) (w.heap.size + 5) _ (mks.take k) (by rfl) (HTA.out.kept (by first | exact Kp.refl _ | exact (Kp.refl _).alloc _)).o4 x _ (by rfl) (by first | (rw [World.cell?_alloc_at _ _ _ _ rfl]; rfl) | (refine HC.out _ _ _ (by omega) ?_; first | (rw [World.cell?_drew, World.cell?_alloc_at _ _ _ _ rfl]; rfl) | (rw [World.cell?_drew]; exact ((Kp.refl _).alloc _).held (by rw [World.cell?_alloc_at _ _ _ _ rfl]; rfl)) | (rw [World.cell?_drew, World.cell?_alloc_at _ _ _ _ (by simp)]; rfl))) (by rw [HLen.out]; omega) (by exact (HTA.out.kept (by first | exact Kp.refl _ | exact (Kp.refl _).alloc _)).hb) ?_; intro u4 w10 f9 a9; have HTF := hid ((HTA.out.kept (by first | exact Kp.refl _ | exact (Kp.refl _).alloc _)).app4 a9 f9); have HTFz := hid ((HTAz.out.kept (by first | exact Kp.refl _ | exact (Kp.refl _).alloc _)).app a9 (fun b hb => (HTA.out.o4.low b hb).1)); obtain ⟨b4, m4, q4, rfl⟩ := f9.shape; clear f9 a9; have ca4 := HTF.out.la.c4; have cb4 := HTF.out.lb.c4; have za := HTF.out.fa; have zb := HTF.out.fb; have hlc := HTF.out.hb; have hAw4 : w.heap.size + 1 + 1 + 1 < w10.heap.size := (by omega); have hBw4 : w.heap.size + 1 + 1 + 1 + 1 < w10.heap.size := (by omega)))
          all_goals (
            have hh := (HTF.out.st2 (.slice b2 m2 q2)).st4 (.slice b4 m4 q4)
            rw [HXX.out] at hh
            have HH := hid hh
            have HZ := hid ((HTFz.out.set HNE.out.1 HNE.out.2.1 HNE.out.2.2.1 HNE.out.2.2.2 4 (.slice b2 m2 q2)).set HNE2.out.1 HNE2.out.2.1 HNE2.out.2.2.1 HNE2.out.2.2.2 4 (.slice b4 m4 q4))
            clear hh HTF HTFz HTA HTAz HC HLen HXX HNE HNE2 HT HTz
            go_wp2_with fail
            go_roundw
            case rel => exact ⟨k + 1, _, _, by omega, by go_num, HH, HZ⟩
            case measure => simp [intOf]; omega)
        · obtain rfl : t2 = k := by omega
          obtain ⟨ca0, ca1, ca2, ca3, ca4⟩ := HT.out.la
          obtain ⟨cb0, cb1, cb2, cb3, cb4⟩ := HT.out.lb
          obtain ⟨r10, r11, r12, r13, r14⟩ := HTz.out.z1
          obtain ⟨r20, r21, r22, r23, r24⟩ := HTz.out.z2
          have gz1 := HTz.out.g1
          have gz2 := HTz.out.g2
          clear hsl2 hmin2
          go_wp2_with fail
          go_region
          all_goals go_wp2
          all_goals (
            have t1' := (Trd.refl (w.heap.size + 1) wr).over n s ep (.slice x1 y1 z1) (.slice x2 y2 z2)
            have t2' := ((Trd.refl (w.heap.size + 1 + 1) (over wr (w.heap.size + 1) n s ep (.slice x1 y1 z1) (.slice x2 y2 z2))).over n s ep (.slice x3 y3 z3) (.slice x4 y4 z4)).drew
            have q1 := t2'.lc (c := w.heap.size + 1) (by omega) (HTz.out.z1.over (n2 := n) (s2 := s) (ep2 := ep) (sv2 := .slice x1 y1 z1) (mv2 := .slice x2 y2 z2))
            have q2 := ((t1'.lc (c := w.heap.size + 1 + 1) (by omega) HTz.out.z2).over (n2 := n) (s2 := s) (ep2 := ep) (sv2 := .slice x3 y3 z3) (mv2 := .slice x4 y4 z4)).kept (Kp.refl _).drew
            have f1 := (t2'.oi (t1'.oi HT.out.o1 (HT.out.o1.far (by omega))) (HT.out.o1.far (by omega))).nums
            have f2 := (t2'.oi (t1'.oi HT.out.o2 (HT.out.o2.far (by omega))) (HT.out.o2.far (by omega))).nums
            have f3 := (t2'.oi (t1'.oi HT.out.o3 (HT.out.o3.far (by omega))) (HT.out.o3.far (by omega))).nums
            have f4 := (t2'.oi (t1'.oi HT.out.o4 (HT.out.o4.far (by omega))) (HT.out.o4.far (by omega))).nums
            rw [HE1.out] at f1 f3
            rw [HE2.out] at f2 f4
            refine bodyPost_ret (results_both rfl _ _ (w.heap.size + 1) (w.heap.size + 1 + 1) rfl rfl q1 q2) rfl ?_
            exact ⟨_, _, _, _, rfl, ⟨f1, f2⟩, ⟨f3, f4⟩, t2'.kp w (t1'.kp w HTz.out.k (by omega)) (by omega)⟩)


end Go.Proofs.Ytobpgfnmhpgkeaa
