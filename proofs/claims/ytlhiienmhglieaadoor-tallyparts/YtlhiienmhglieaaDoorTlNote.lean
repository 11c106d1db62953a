/-
  Contracts of a tally's Note, Bars. Conditions: what the tally's cells hold.
-/
import Derived.Test.YtlhiienmhglieaaDoorTlMem
import Derived.Deep.OwnRows
import Derived.Deep.DeepCutAuto
import Derived.Deep.RegionHeld3
namespace Go.Proofs.YtlhiienmhglieaaDoor
open Go.RowKit
set_option linter.unusedVariables false
theorem hid {p : Prop} (h : p) : Hid p := h

set_option maxRecDepth 100000 in
set_option maxHeartbeats 2000000 in
theorem note_any (t : Nat) (s : TS) (N x : Int) (w : World) (h : TlIn w t s) (ho : Ok s N) (hN : N ≤ 1000) (hx : x ≤ 9223372036854775807) : Calls Tryd.prog 9 #[.pointer (some ⟨t, 0, none⟩), .int .i64 x] w fun e w' => e = .returned (.tuple #[]) ∧ TlIn w' t (nt s x) ∧ Sp [t] w w' := by
  have hmax := imax (P := Tryd.prog) #[3, 3] 3 x 0 w
  obtain ⟨y, hy⟩ : ∃ y, y = max x 0 := ⟨_, rfl⟩
  rw [← hy] at hmax
  have hy0 : 0 ≤ y := by omega
  have hy1 : y ≤ 9223372036854775807 := by omega
  have hu : IntKind.u64.wrap y = y := by rw [IntKind.wrap_u64]; omega
  have hi : IntKind.i64.wrap y = y := by rw [IntKind.wrap_i64]; omega
  obtain ⟨j, hj⟩ : ∃ j, j = bl x := ⟨_, rfl⟩
  have hj64 : j < 64 := by rw [hj]; exact bl_lt x hx
  have hlen : ∀ w' : World, Calls Tryd.prog 22 #[.int .u64 y] w' fun e w'' => e = .returned (.int .i64 (j : Int)) ∧ w'' = w' := fun w' => by
    have := len_any y w' hy0 (by omega)
    unfold bl at hj
    rw [← hy] at hj
    rwa [← hj] at this
  have HT := hid h
  have HY := hid hy
  have HJ := hid hj
  clear hy hj h
  go_enter Tryd.func9, Tryd.ntmps9
  go_wp2_with fail
  refine wp_region_tailc2 rfl (by kernel_rfl) (by kernel_rfl) (by kernel_rfl) ?_
  simp only [List.dropLast]
  repeat (first
    | go_big_quiet_skip
    | (go_big_quiet_want; go_big_quiet_op; go_big_quiet_on)
    | (go_big_quiet_want; go_big_quiet_op; apply Exists.intro; refine ⟨fun p => ?_, ?_⟩; (focus (go_at_call 22; exact kp_same (hlen _))); go_big_quiet_on))
  refine wpQuiet_nil ?_
  rintro w9 ⟨p, hp9⟩
  have kD : Kp w w9 := by rw [hp9]; exact kpw_kp w p
  clear hp9 hlen
  have h9 := HT.out.kp kD
  have hb := ho.b j
  have hA := iadd ⟨t, 9 + j, none⟩ (s.b j) 1 (s.b j + 1) w9 (h9.b j hj64) (h9.z _) rfl (by omega) (by omega)
  have h10 := h9.setB j hj64 (s.b j + 1) ⟨s.c, fun i => if i = j then s.b i + 1 else s.b i, s.m⟩ (fun i hi => by show (if i = j then s.b i + 1 else s.b i) = (if i = j then s.b j + 1 else s.b i); split <;> simp_all) rfl rfl
  have S10 : Sp [t] w (w9.setCell ⟨t, 9 + j, none⟩ (.int .i64 (s.b j + 1))) := (kD.sp [t]).set t _ (by simp) _
  have HT10 := hid h10
  have HS10 := hid S10
  clear h9 HT kD hb h10 S10
  go_wp2_with fail
  refine hA.mono ?_; rintro e w10 ⟨rfl, hw10⟩
  rw [← hw10] at HT10 HS10
  have hR := reach_any ⟨t, 73, none⟩ s.m y w10 HT10.out.m (HT10.out.z _)
  clear hA hw10
  go_wp2_with fail
  refine hR.mono ?_; rintro e w11 ⟨rfl, hw11⟩
  have hE : nt s x = ⟨s.c, fun i => if i = j then s.b i + 1 else s.b i, max s.m y⟩ := by unfold nt; rw [← HJ.out, ← HY.out]
  have hF : TlIn w11 t (nt s x) ∧ Sp [t] w w11 := by
    rw [hE]
    rcases hw11 with rfl | ⟨rfl, e⟩
    · exact ⟨HT10.out.setM _ _ rfl rfl rfl, HS10.out.set t _ (by simp) _⟩
    · rw [e]; exact ⟨HT10.out, HS10.out⟩
  clear hR hw11 hE HT10 HS10
  go_wp2
  go_end0
  exact ⟨rfl, hF⟩

/-! ### Bars -/
theorem info_i64 : (Tryd.prog.info? 2).map (fun i => (i.zero, i.size, i.bytes)) = some (some (.int .i64 0), 1, 8) := by kernel_rfl
/-- a row of its own: n numbers. -/
structure Br (w : World) (g n : Nat) (f : Nat → Int) : Prop where
  hb : g < w.heap.size
  c : ∀ j, j < n → w.cell? ⟨g, j, none⟩ = some (.int .i64 (f j))
  z : ∀ o, w.frozen? ⟨g, o, none⟩ = false
theorem Br.sp {w w' : World} {g n : Nat} {f : Nat → Int} (h : Br w g n f) {T : List Nat} (k : Sp T w w') (hg : g ∉ T) : Br w' g n f :=
  ⟨Nat.lt_of_lt_of_le h.hb k.size, fun j hj => k.held (h.c j hj) hg, fun o => (k.frozen h.hb hg o).trans (h.z o)⟩
theorem Br.kp {w w' : World} {g n : Nat} {f : Nat → Int} (h : Br w g n f) (k : Kp w w') : Br w' g n f := h.sp (k.sp []) (by simp)
theorem Br.less {w : World} {g n m : Nat} {f : Nat → Int} (h : Br w g n f) (hm : m ≤ n) : Br w g m f := ⟨h.hb, fun j hj => h.c j (by omega), h.z⟩
theorem Br.set {w : World} {g n : Nat} {f f' : Nat → Int} (h : Br w g n f) (j : Nat) (x : Int) (e : ∀ i, i < n → f' i = if i = j then x else f i) : Br (w.setCell ⟨g, j, none⟩ (.int .i64 x)) g n f' := by
  refine ⟨by simpa [World.setCell] using h.hb, fun i hi => ?_, fun o => (World.frozen?_setCell _ _ _ _).trans (h.z o)⟩
  rw [e i hi]
  by_cases hij : i = j
  · subst hij; rw [World.cell?_setCell_same _ _ _ (h.c i hi), if_pos rfl]
  · rw [cell_off _ _ _ _ _ (by omega), h.c i hi, if_neg hij]
theorem Br.made (w : World) (n : Nat) : Br (w.alloc (.cells (madeCells #[.int .i64 0] n) 2)) w.heap.size n (fun _ => 0) := by
  refine ⟨by simp, fun j hj => ?_, fun o => World.frozen?_alloc_at _ _ _ _ rfl⟩
  rw [World.cell?_alloc_at _ _ _ _ rfl]
  simp [madeCells, hj, Nat.mod_one]
def upto (f : Nat → Int) (k : Nat) : Nat → Int := fun i => if i < k then f i else 0

set_option maxRecDepth 100000 in
set_option maxHeartbeats 2000000 in
theorem bars_any (t : Nat) (s : TS) (w : World) (h : TlIn w t s) : Calls Tryd.prog 19 #[.pointer (some ⟨t, 0, none⟩)] w fun e w' => e = .returned (.slice (some ⟨w.heap.size, 0, none⟩) (en s.b 64) (en s.b 64)) ∧ Br w' w.heap.size (en s.b 64) s.b ∧ Kp w w' := by
  have hmk : (Instr.makeSlice 50 (.int .i64 64) (.int .i64 64)).run Tryd.prog w = .ok (.slice (some ⟨w.heap.size, 0, none⟩) 64 64) (w.alloc (.cells (madeCells #[.int .i64 0] 64) 2)) := run_make_row' (P := Tryd.prog) 50 2 (.int .i64 0) 8 Tryd.underlying50 info_i64 rfl .i64 .i64 64 (by omega) (by omega) w
  have hB0 := Br.made w 64
  have k0 : Kp w (w.alloc (.cells (madeCells #[.int .i64 0] 64) 2)) := (Kp.refl w).alloc _
  obtain ⟨W, hW⟩ : ∃ W, W = w.alloc (.cells (madeCells #[.int .i64 0] 64) 2) := ⟨_, rfl⟩
  rw [← hW] at hmk hB0 k0
  have HT := hid h
  have HB0 := hid hB0
  have HK0 := hid k0
  have hlt := h.hb
  clear hW h hB0 k0
  go_enter Tryd.func19, Tryd.ntmps19
  go_wp2_with fail
  clear hmk
  go_loopw [4, 11] (fun e i wr => ∃ k : Nat, k ≤ 64 ∧ i = .int .i64 k ∧ e = .int .i64 (en s.b k : Nat) ∧ Hid (Br wr w.heap.size 64 (upto s.b k)) ∧ Hid (Kp w wr)) (fun _ i _ => 64 - (intOf i).toNat)
  case atStart => exact ⟨0, by omega, rfl, rfl, HB0, HK0⟩
  case round =>
    clear HB0 HK0
    obtain ⟨k, hk, rfl, rfl, HB, HK⟩ := hrel
    by_cases hlt2 : k < 64
    · have hL := iload ⟨t, 9 + k, none⟩ (s.b k) wr ((HT.out.kp HK.out).b k hlt2)
      have hz := HB.out.z k
      have hc := HB.out.c k hlt2
      go_wp2_with fail
      refine hL.mono ?_; rintro e w1 ⟨rfl, rfl⟩
      have HB1 : Hid (Br (w1.setCell ⟨w.heap.size, k, none⟩ (.int .i64 (s.b k))) w.heap.size 64 (upto s.b (k + 1))) := HB.out.set k (s.b k) (fun i hi => by
        unfold upto
        by_cases e : i = k
        · subst e; rw [if_pos (by omega), if_pos rfl]
        · rw [if_neg e]
          by_cases e2 : i < k
          · rw [if_pos (by omega), if_pos e2]
          · rw [if_neg (by omega), if_neg e2])
      have HK1 : Hid (Kp w (w1.setCell ⟨w.heap.size, k, none⟩ (.int .i64 (s.b k)))) := Below.setCell HK.out (p := ⟨w.heap.size, k, none⟩) (Nat.le_refl _) _
      have hc1 := HB1.out.c k hlt2
      rw [show upto s.b (k + 1) k = s.b k by unfold upto; rw [if_pos (by omega)]] at hc1
      clear HB HK hL
      go_wp2
      all_goals (refine ⟨⟨k + 1, by omega, by go_num, ?_, HB1, HK1⟩, by show 64 - ((k : Int) + 1).toNat < 64 - ((k : Int)).toNat; omega⟩)
      · rename_i hh
        rw [en_yes s.b k (by simpa using hh)]; go_num
      · rename_i hh
        rw [en_no s.b k (by simpa using hh)]
    · obtain rfl : k = 64 := by omega
      have hen := en_le s.b 64
      have HF : Hid (Br wr w.heap.size (en s.b 64) s.b) := ⟨HB.out.hb, fun j hj => by rw [HB.out.c j (by omega)]; unfold upto; rw [if_pos (by omega)], HB.out.z⟩
      clear HB
      obtain ⟨m, hm⟩ : ∃ m, m = en s.b 64 := ⟨_, rfl⟩
      rw [← hm] at hen HF
      rw [← hm]
      have HM := hid hm
      clear hm
      go_wp2
      go_ret
      rw [← HM.out]
      exact ⟨rfl, HF, HK⟩

end Go.Proofs.YtlhiienmhglieaaDoor
