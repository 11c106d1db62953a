/-
  TallySums: for every input the law answers true, and its arguments read as before. The condition: the kinds' names read as they are laid.
-/
import Derived.Test.YtlhiienmhglieaaDoorRows
import Derived.Test.YtlhiienmhglieaaDoorCards
import Derived.Test.YtlhiienmhglieaaDoorTie
import Derived.Test.YtlhiienmhglieaaDoorTlArgs
import Derived.WalkKit
import Derived.ProofKit
import Derived.OpenShut
import Derived.ShutString
import Derived.LaidMore
import Derived.SevenTiedAt
import Derived.Stop.Joined
namespace Go.Proofs.YtlhiienmhglieaaDoor.tallySums
open Go.ChangeShapes Go.WideShapes Go.ChangeAt Go.RowKit
open Go.ChangeMaps (open_string shut_string)
open Go.BigFrame
set_option linter.unusedVariables false

theorem own : ownKnob Tryd.prog.godebug = none := by kernel_rfl
theorem laidOut : laidOutB Tryd.prog = true := by kernel_rfl

theorem take_at (l : List TA) (m i : Nat) (h : i < m) (hm : m ≤ l.length) : (l.take m).getD i noA = l.getD i noA := by
  simp [List.getD_eq_getElem?_getD, h]
theorem w64_in (n : Int) (h : -9223372036854775808 ≤ n ∧ n ≤ 9223372036854775807) : wrap64 n = n := by unfold wrap64; omega
def sT (l : List TA) (k j : Nat) : TS := run (l.take (if j = 0 then k else k + 1))
def sU (l : List TA) (k j : Nat) : TS := run (l.reverse.take (if j ≤ 1 then k else k + 1))
def sN (l : List TA) (k j : Nat) : Int := nd (l.take (if j = 0 then k else k + 1))

set_option maxRecDepth 100000 in
set_option maxHeartbeats 8000000 in
theorem walk (w : World) (hN : Names w) (a0 : Value) (l0 : List TA) (w0 : Acts w a0 l0) :
    Calls Tryd.prog 5 #[a0] w fun e w' => e = .returned (.bool true) ∧ Kp w w' := by
  obtain ⟨q, cap, rfl, hl1, hl2, hl3⟩ := w0.h
  obtain ⟨n1, hn1⟩ : ∃ n1, n1 = l0.length := ⟨_, rfl⟩
  rw [← hn1] at hl1 ⊢
  obtain ⟨m, hm⟩ : ∃ m, m = min n1 60 := ⟨_, rfl⟩
  have hm1 : m ≤ n1 := by omega
  have hm2 : m ≤ 60 := by omega
  have hmin := fun w' => imin (P := Tryd.prog) #[3, 3] 3 (n1 : Int) 60 w'
  rw [show min (n1 : Int) 60 = (m : Int) by omega] at hmin
  obtain ⟨l, hl⟩ : ∃ l, l = l0.take m := ⟨_, rfl⟩
  have hlen : l.length = m := by rw [hl, List.length_take]; omega
  have hz : ∀ i, i < l.length → (l.getD i noA).z ≤ 9223372036854775807 := fun i hi => by
    rw [hlen] at hi
    rw [hl, take_at l0 m i hi (by omega)]
    exact (wf_le (w0.ok i (by omega)).z).2
  have hzr : ∀ i, i < l.reverse.length → (l.reverse.getD i noA).z ≤ 9223372036854775807 := fun i hi => by
    rw [List.length_reverse] at hi
    rw [rev_at l i hi]
    exact hz _ (by omega)
  have hn : ∀ i, i < l.length → (l.getD i noA).n ≤ 9223372036854775807 := fun i hi => by
    rw [hlen] at hi
    rw [hl, take_at l0 m i hi (by omega)]
    exact (wf_le (w0.ok i (by omega)).n).2
  have HR := hid (run_ok l hz)
  have HRR := hid (run_ok l.reverse hzr)
  have HN' := hid hn
  have HZ := hid hz
  have HA : Hid (∀ wr, Kp w wr → ∀ i, i < m → ∃ g off, q = some ⟨g, off, none⟩ ∧ wr.cell? ⟨g, off + i * 4, none⟩ = some (.int .i64 (l.getD i noA).d) ∧ wr.cell? ⟨g, off + i * 4 + 1, none⟩ = some (.int .i64 (l.getD i noA).k) ∧ wr.cell? ⟨g, off + i * 4 + 2, none⟩ = some (.int .i64 (l.getD i noA).z) ∧ wr.cell? ⟨g, off + i * 4 + 3, none⟩ = some (.int .i64 (l.getD i noA).n)) := fun wr kr i hi => by
    obtain ⟨g, off, e1, h4⟩ := hl3 (by omega)
    obtain ⟨c0, c1, c2, c3⟩ := a_cells (h4 i (by omega))
    rw [hl, take_at l0 m i hi (by omega)]
    exact ⟨g, off, e1, kr.held c0, kr.held c1, kr.held c2, kr.held c3⟩
  have HLen := hid hlen
  have HNm := hid hN
  clear hl3 hz hzr hn w0 hn1 hl hm hlen hN
  go_enter Tryd.func5, Tryd.ntmps5
  go_wp2_with fail
  refine (new_any w).mono ?_; rintro e w1 ⟨rfl, h1, k1⟩
  go_wp2_with fail
  refine (new_any w1).mono ?_; rintro e w2 ⟨rfl, h2, k2⟩
  obtain ⟨t, ht⟩ : ∃ t, t = w.heap.size := ⟨_, rfl⟩
  obtain ⟨u, hu⟩ : ∃ u, u = w1.heap.size := ⟨_, rfl⟩
  rw [← ht] at h1 ⊢
  rw [← hu] at h2 ⊢
  have htu : t ≠ u := by have := h1.hb; omega
  have HT0 : Hid (TlIn w2 t tz) := h1.kp k2
  have HU0 : Hid (TlIn w2 u tz) := h2
  have HK2 : Hid (Kp w w2) := k1.trans k2
  have Hdt : Hid (w.heap.size ≤ t) := by rw [ht]; exact Nat.le_refl _
  have Hdu : Hid (w.heap.size ≤ u) := by rw [hu]; exact k1.size
  clear h1 h2 k1 k2 ht hu
  go_wp2_with fail
  go_loopw [5, 24] (fun nv i wr => ∃ k : Nat, k ≤ m ∧ i = .int .i64 k ∧ nv = .int .i64 (nd (l.take k)) ∧ Hid (TlIn wr t (run (l.take k))) ∧ Hid (TlIn wr u (run (l.reverse.take k))) ∧ Hid (Kp w wr)) (fun _ i _ => m - (intOf i).toNat)
  case atStart => exact ⟨0, by omega, by go_num, rfl, HT0, HU0, HK2⟩
  case round =>
    clear HT0 HU0 HK2
    obtain ⟨k, hk, rfl, rfl, HT, HU, HK⟩ := hrel
    by_cases hlt : k < m
    · have hi1 : IntKind.i64.wrap ((m : Int) - 1) = (m : Int) - 1 := by rw [IntKind.wrap_i64]; omega
      have hi2 : IntKind.i64.wrap ((m : Int) - 1 - (k : Int)) = ((m - 1 - k : Nat) : Int) := by rw [IntKind.wrap_i64]; omega
      obtain ⟨wo, hwo⟩ : ∃ wo, wo = wr := ⟨_, rfl⟩
      rw [← hwo] at HT HU HK
      obtain ⟨g2, hg2⟩ : ∃ g2, g2 = wo.heap.size := ⟨_, rfl⟩
      have kb : Kp wo (wo.alloc (.cells #[.pointer (some ⟨t, 0, none⟩), .pointer (some ⟨u, 0, none⟩)] 23)) := (Kp.refl wo).alloc _
      have HC : Hid ((wo.alloc (.cells #[.pointer (some ⟨t, 0, none⟩), .pointer (some ⟨u, 0, none⟩)] 23)).cell? ⟨g2, 0, none⟩ = some (.pointer (some ⟨t, 0, none⟩)) ∧ (wo.alloc (.cells #[.pointer (some ⟨t, 0, none⟩), .pointer (some ⟨u, 0, none⟩)] 23)).cell? ⟨g2, 1, none⟩ = some (.pointer (some ⟨u, 0, none⟩))) := ⟨by rw [World.cell?_alloc_at _ _ _ _ hg2]; rfl, by rw [World.cell?_alloc_at _ _ _ _ hg2]; rfl⟩
      have Hlt : Hid (t < g2 ∧ u < g2) := ⟨by rw [hg2]; exact HT.out.hb, by rw [hg2]; exact HU.out.hb⟩
      have HT1 := hid (HT.out.kp kb)
      have HU1 := hid (HU.out.kp kb)
      have HK1 := hid (HK.out.trans kb)
      clear HT HU HK kb
      subst hwo
      have Hg2 := hid hg2
      go_wp2_with fail
      rw [← hg2]
      clear hg2
      go_loopw [5, 31] (fun nv i wr => ∃ j : Nat, j ≤ 2 ∧ i = .int .i64 j ∧ nv = .int .i64 (sN l k j) ∧ Hid (TlIn wr t (sT l k j)) ∧ Hid (TlIn wr u (sU l k j)) ∧ Hid (wr.cell? ⟨g2, 0, none⟩ = some (.pointer (some ⟨t, 0, none⟩)) ∧ wr.cell? ⟨g2, 1, none⟩ = some (.pointer (some ⟨u, 0, none⟩))) ∧ Hid (Kp w wr)) (fun _ i _ => 2 - (intOf i).toNat)
      case atStart => exact ⟨0, by omega, by go_num, rfl, HT1, HU1, HC, HK1⟩
      case round =>
        clear HT1 HU1 HC HK1
        obtain ⟨j, hj, rfl, rfl, HT, HU, HC, HK⟩ := hrel
        by_cases hj2 : j < 2
        · obtain ⟨W1, hW1⟩ : ∃ W1, W1 = wr.alloc (.cells #[.int .i64 (k : Int), .int .i64 ((m - 1 - k : Nat) : Int)] 3) := ⟨_, rfl⟩
          have k1 : Kp wr W1 := by rw [hW1]; exact (Kp.refl wr).alloc _
          have KW1 : Kp w W1 := HK.out.trans k1
          obtain ⟨c0, c1⟩ := HC.out
          have hmk : m - 1 - k < m := by omega
          rcases (show j = 0 ∨ j = 1 by omega) with rfl | rfl
          · obtain ⟨g, off, rfl, f0, f1, f2, f3⟩ := HA.out W1 KW1 k hlt
            rw [hW1] at f0 f1 f2 f3
            have hzz := HZ.out k (by rw [HLen.out]; omega)
            have hnn := HN'.out k (by rw [HLen.out]; omega)
            have hOk : Ok (sT l k 0) (k : Int) := (HR.out k (by rw [HLen.out]; omega)).1
            have hst : sT l k 1 = st (sT l k 0) (l.getD k noA) := run_take l k (by rw [HLen.out]; omega)
            have hnd := nd_take l k (by rw [HLen.out]; omega)
            have hnb := nd_bound (l.take k)
            have hnb2 : ((l.take k).length : Int) ≤ 60 := by rw [List.length_take]; omega
            obtain ⟨a, ha⟩ : ∃ a, a = l.getD k noA := ⟨_, rfl⟩
            rw [← ha] at f0 f1 f2 f3 hzz hnn hst hnd
            obtain ⟨d, kk, zz, nn⟩ := a
            simp only at f0 f1 f2 f3 hzz hnn
            obtain ⟨W2, hW2⟩ : ∃ W2, W2 = W1.alloc (.cells #[.int .i64 d, .int .i64 kk, .int .i64 zz, .int .i64 nn] 32) := ⟨_, rfl⟩
            have k2 : Kp W1 W2 := by rw [hW2]; exact (Kp.refl W1).alloc _
            have hT2 := HT.out.kp (k1.trans k2)
            have HSt := hid hst
            have HNd := hid hnd
            have HNb := hid hnb
            clear hst hnb hnd
            by_cases hd : d % 2 = 0
            · have hbit : bits .and .i64 d 1 = 0 := by rw [mask1]; exact hd
              have hcall := add_any t _ (k : Int) kk nn W2 hT2 hOk hnn
              have HOK : Hid (Kp w W2) := KW1.trans k2
              have HO2 : Hid (TlIn W2 u _) := HU.out.kp (k1.trans k2)
              have HC2 : Hid (W2.cell? ⟨g2, 0, none⟩ = some (.pointer (some ⟨t, 0, none⟩)) ∧ W2.cell? ⟨g2, 1, none⟩ = some (.pointer (some ⟨u, 0, none⟩))) := ⟨(k1.trans k2).held c0, (k1.trans k2).held c1⟩
              have HW2 := hid hW2
              have HW1 := hid hW1
              have HHa := hid ha
              clear hW2 hW1 k1 k2 KW1 hT2 ha HT HU HC HK
              go_wp2_with fail
              rw [← HW1.out, ← HW2.out]
              refine hcall.mono ?_; rintro e V ⟨rfl, hv, sv⟩
              have HV : Hid (TlIn V t (sT l k 1)) := by rw [HSt.out]; unfold st; rw [if_pos hd]; exact hv
              have HVo := hid (HO2.out.sp sv (by simp; omega))
              have HCV : Hid (V.cell? ⟨g2, 0, none⟩ = some (.pointer (some ⟨t, 0, none⟩)) ∧ V.cell? ⟨g2, 1, none⟩ = some (.pointer (some ⟨u, 0, none⟩))) := ⟨sv.held HC2.out.1 (by have := Hlt.out; simp; omega), sv.held HC2.out.2 (by have := Hlt.out; simp; omega)⟩
              have HKV : Hid (Kp w V) := Sp.kp HOK.out sv (fun x hx => by rw [List.mem_singleton.1 hx]; exact Hdt.out)
              clear hcall hv sv HO2 HC2 HOK
              go_wp2
              go_roundw
              case measure => simp [intOf]
              case rel =>
                refine ⟨1, by omega, by go_num, ?_, HV, HVo, HCV, HKV⟩
                have := HNd.out; rw [if_pos hd] at this; show Value.int .i64 (nd (l.take k)) = .int .i64 (nd (l.take (k + 1))); rw [this, Int.add_zero]
            · have hbit : bits .and .i64 d 1 = 1 := by rw [mask1]; omega
              have hcall := note_any t _ (k : Int) zz W2 hT2 hOk (by omega) hzz
              have HOK : Hid (Kp w W2) := KW1.trans k2
              have HO2 : Hid (TlIn W2 u _) := HU.out.kp (k1.trans k2)
              have HC2 : Hid (W2.cell? ⟨g2, 0, none⟩ = some (.pointer (some ⟨t, 0, none⟩)) ∧ W2.cell? ⟨g2, 1, none⟩ = some (.pointer (some ⟨u, 0, none⟩))) := ⟨(k1.trans k2).held c0, (k1.trans k2).held c1⟩
              have HW2 := hid hW2
              have HW1 := hid hW1
              have HHa := hid ha
              clear hW2 hW1 k1 k2 KW1 hT2 ha HT HU HC HK
              go_wp2_with fail
              rw [← HW1.out, ← HW2.out]
              refine hcall.mono ?_; rintro e V ⟨rfl, hv, sv⟩
              have HV : Hid (TlIn V t (sT l k 1)) := by rw [HSt.out]; unfold st; rw [if_neg hd]; exact hv
              have HVo := hid (HO2.out.sp sv (by simp; omega))
              have HCV : Hid (V.cell? ⟨g2, 0, none⟩ = some (.pointer (some ⟨t, 0, none⟩)) ∧ V.cell? ⟨g2, 1, none⟩ = some (.pointer (some ⟨u, 0, none⟩))) := ⟨sv.held HC2.out.1 (by have := Hlt.out; simp; omega), sv.held HC2.out.2 (by have := Hlt.out; simp; omega)⟩
              have HKV : Hid (Kp w V) := Sp.kp HOK.out sv (fun x hx => by rw [List.mem_singleton.1 hx]; exact Hdt.out)
              clear hcall hv sv HO2 HC2 HOK
              go_wp2
              go_roundw
              case measure => simp [intOf]
              case rel =>
                refine ⟨1, by omega, by go_num, ?_, HV, HVo, HCV, HKV⟩
                have := HNd.out
                rw [if_neg hd] at this
                have hb := HNb.out
                have e1 : sN l k 1 = sN l k 0 + 1 := this
                have e2 : sN l k 0 = nd (l.take k) := rfl
                rw [e1, w64_in _ ⟨by omega, by omega⟩]
          · obtain ⟨g, off, rfl, f0, f1, f2, f3⟩ := HA.out W1 KW1 (m - 1 - k) hmk
            rw [hW1] at f0 f1 f2 f3
            have hzz := HZ.out (m - 1 - k) (by rw [HLen.out]; omega)
            have hnn := HN'.out (m - 1 - k) (by rw [HLen.out]; omega)
            have hOk : Ok (sU l k 1) (k : Int) := (HRR.out k (by rw [List.length_reverse, HLen.out]; omega)).1
            have hst : sU l k 2 = st (sU l k 1) (l.getD (m - 1 - k) noA) := (run_take l.reverse k (by rw [List.length_reverse, HLen.out]; omega)).trans (by rw [rev_at l k (by rw [HLen.out]; omega), HLen.out]; rfl)
            skip
            have hnb := nd_bound (l.take k)
            have hnb2 : ((l.take k).length : Int) ≤ 60 := by rw [List.length_take]; omega
            obtain ⟨a, ha⟩ : ∃ a, a = l.getD (m - 1 - k) noA := ⟨_, rfl⟩
            rw [← ha] at f0 f1 f2 f3 hzz hnn hst
            obtain ⟨d, kk, zz, nn⟩ := a
            simp only at f0 f1 f2 f3 hzz hnn
            obtain ⟨W2, hW2⟩ : ∃ W2, W2 = W1.alloc (.cells #[.int .i64 d, .int .i64 kk, .int .i64 zz, .int .i64 nn] 32) := ⟨_, rfl⟩
            have k2 : Kp W1 W2 := by rw [hW2]; exact (Kp.refl W1).alloc _
            have hT2 := HU.out.kp (k1.trans k2)
            have HSt := hid hst
            have HNd := hid hnb
            have HNb := hid hnb
            clear hst hnb 
            by_cases hd : d % 2 = 0
            · have hbit : bits .and .i64 d 1 = 0 := by rw [mask1]; exact hd
              have hcall := add_any u _ (k : Int) kk nn W2 hT2 hOk hnn
              have HOK : Hid (Kp w W2) := KW1.trans k2
              have HO2 : Hid (TlIn W2 t _) := HT.out.kp (k1.trans k2)
              have HC2 : Hid (W2.cell? ⟨g2, 0, none⟩ = some (.pointer (some ⟨t, 0, none⟩)) ∧ W2.cell? ⟨g2, 1, none⟩ = some (.pointer (some ⟨u, 0, none⟩))) := ⟨(k1.trans k2).held c0, (k1.trans k2).held c1⟩
              have HW2 := hid hW2
              have HW1 := hid hW1
              have HHa := hid ha
              clear hW2 hW1 k1 k2 KW1 hT2 ha HT HU HC HK
              go_wp2_with fail
              rw [← HW1.out, ← HW2.out]
              refine hcall.mono ?_; rintro e V ⟨rfl, hv, sv⟩
              have HV : Hid (TlIn V u (sU l k 2)) := by rw [HSt.out]; unfold st; rw [if_pos hd]; exact hv
              have HVo := hid (HO2.out.sp sv (by simp; omega))
              have HCV : Hid (V.cell? ⟨g2, 0, none⟩ = some (.pointer (some ⟨t, 0, none⟩)) ∧ V.cell? ⟨g2, 1, none⟩ = some (.pointer (some ⟨u, 0, none⟩))) := ⟨sv.held HC2.out.1 (by have := Hlt.out; simp; omega), sv.held HC2.out.2 (by have := Hlt.out; simp; omega)⟩
              have HKV : Hid (Kp w V) := Sp.kp HOK.out sv (fun x hx => by rw [List.mem_singleton.1 hx]; exact Hdu.out)
              clear hcall hv sv HO2 HC2 HOK
              go_wp2
              go_roundw
              case measure => simp [intOf]
              case rel =>
                refine ⟨2, by omega, by go_num, ?_, HVo, HV, HCV, HKV⟩
                rfl
            · have hbit : bits .and .i64 d 1 = 1 := by rw [mask1]; omega
              have hcall := note_any u _ (k : Int) zz W2 hT2 hOk (by omega) hzz
              have HOK : Hid (Kp w W2) := KW1.trans k2
              have HO2 : Hid (TlIn W2 t _) := HT.out.kp (k1.trans k2)
              have HC2 : Hid (W2.cell? ⟨g2, 0, none⟩ = some (.pointer (some ⟨t, 0, none⟩)) ∧ W2.cell? ⟨g2, 1, none⟩ = some (.pointer (some ⟨u, 0, none⟩))) := ⟨(k1.trans k2).held c0, (k1.trans k2).held c1⟩
              have HW2 := hid hW2
              have HW1 := hid hW1
              have HHa := hid ha
              clear hW2 hW1 k1 k2 KW1 hT2 ha HT HU HC HK
              go_wp2_with fail
              rw [← HW1.out, ← HW2.out]
              refine hcall.mono ?_; rintro e V ⟨rfl, hv, sv⟩
              have HV : Hid (TlIn V u (sU l k 2)) := by rw [HSt.out]; unfold st; rw [if_neg hd]; exact hv
              have HVo := hid (HO2.out.sp sv (by simp; omega))
              have HCV : Hid (V.cell? ⟨g2, 0, none⟩ = some (.pointer (some ⟨t, 0, none⟩)) ∧ V.cell? ⟨g2, 1, none⟩ = some (.pointer (some ⟨u, 0, none⟩))) := ⟨sv.held HC2.out.1 (by have := Hlt.out; simp; omega), sv.held HC2.out.2 (by have := Hlt.out; simp; omega)⟩
              have HKV : Hid (Kp w V) := Sp.kp HOK.out sv (fun x hx => by rw [List.mem_singleton.1 hx]; exact Hdu.out)
              clear hcall hv sv HO2 HC2 HOK
              go_wp2
              go_roundw
              case measure => simp [intOf]
              case rel =>
                refine ⟨2, by omega, by go_num, ?_, HVo, HV, HCV, HKV⟩
                have hb := nd_bound (l.take (k + 1))
                have hb2 : ((l.take (k + 1)).length : Int) ≤ 60 := by rw [List.length_take]; omega
                have e2 : sN l k 1 = nd (l.take (k + 1)) := rfl
                have e3 : sN l k 2 = nd (l.take (k + 1)) := rfl
                rw [e2, e3, w64_in _ ⟨by omega, by omega⟩]
        · obtain rfl : j = 2 := by omega
          go_wp2
          go_roundw
          case rel => exact ⟨k + 1, by omega, by go_num, rfl, HT, HU, HK⟩
          case measure => simp [intOf]; omega
    · obtain rfl : k = m := by omega
      have hx : l.reverse.take k = l.reverse := List.take_of_length_le (by rw [List.length_reverse, HLen.out]; exact Nat.le_refl _)
      have hy : l.take k = l := List.take_of_length_le (by rw [HLen.out]; exact Nat.le_refl _)
      obtain ⟨S, hS⟩ : ∃ S, S = run l := ⟨_, rfl⟩
      have HSN : Hid (sm S.b 64 = nd (l.take k)) := by have := (HR.out k (by rw [HLen.out]; exact Nat.le_refl _)).2; rw [hy] at this; show sm S.b 64 = _; rw [hS, hy]; exact this
      have hSok : Ok S (k : Int) := by have := (HR.out k (by rw [HLen.out]; exact Nat.le_refl _)).1; rw [hy] at this; rw [hS]; exact this
      rw [hx, run_rev, ← hS] at HU
      rw [hy, ← hS] at HT
      have hb1 := bars_any t S wr HT.out
      have HEn := hid (en_le S.b 64)
      obtain ⟨E, hE⟩ : ∃ E, E = en S.b 64 := ⟨_, rfl⟩
      have HSE : Hid (sm S.b E = nd (l.take k)) := by
        show sm S.b E = _
        rw [← HSN.out, hE]
        exact (sm_cut S.b _ 64 (en_le _ _) (fun i h1 h2 => en_out S.b 64 i h1 h2)).symm
      have hE64 : E ≤ 64 := by rw [hE]; exact en_le _ _
      have HE := hid hE
      obtain ⟨N, hN⟩ : ∃ N, N = nd (l.take k) := ⟨_, rfl⟩
      rw [← hE] at hb1
      clear hx hy hS HSN hE HR HRR HN' HZ HA
      go_wp2_with fail
      refine hb1.mono ?_; rintro e w3 ⟨rfl, b3, k3⟩
      have HT3 := hid (HT.out.kp k3)
      have HU3 := hid (HU.out.kp k3)
      have HK3 := hid (HK.out.trans k3)
      have hb2 := bars_any u S w3 HU3.out
      rw [← HE.out] at hb2
      obtain ⟨ga, hga⟩ : ∃ ga, ga = wr.heap.size := ⟨_, rfl⟩
      rw [← hga] at b3 ⊢
      have HB3 := hid b3
      clear hb1 k3 HT HU HK b3 hga
      go_wp2_with fail
      refine hb2.mono ?_; rintro e w4 ⟨rfl, b4, k4⟩
      obtain ⟨gb, hgb⟩ : ∃ gb, gb = w3.heap.size := ⟨_, rfl⟩
      rw [← hgb] at b4 ⊢
      have HT4 := hid (HT3.out.kp k4)
      have HU4 := hid (HU3.out.kp k4)
      have HK4 := hid (HK3.out.trans k4)
      have HBa := hid (HB3.out.kp k4)
      have HBb := hid b4
      have hm1 := most_any t S w4 HT4.out
      have hm2 := most_any u S w4 HU4.out
      clear hb2 k4 HT3 HU3 HK3 b4 hgb HB3
      go_wp2_with fail
      refine hm1.mono ?_; rintro e w5 ⟨rfl, rfl⟩
      go_wp2_with fail
      refine hm2.mono ?_; rintro e w6 ⟨rfl, rfl⟩
      clear hm1 hm2
      go_wp2_with fail
      go_loopw [10, 87] (fun sv i wr => ∃ i0 : Nat, i0 ≤ E ∧ i = .int .i64 i0 ∧ sv = .int .i64 (sm S.b i0) ∧ Hid (Kp w6 wr)) (fun _ i _ => E - (intOf i).toNat)
      case atStart => exact ⟨0, by omega, by go_num, rfl, Kp.refl w6⟩
      case round =>
        obtain ⟨i, hi, rfl, rfl, HKr⟩ := hrel
        by_cases hlt2 : i < E
        · have f1 := (HBa.out.kp HKr.out).c i hlt2
          have f2 := (HBb.out.kp HKr.out).c i hlt2
          have y1 := kpw_cell f1
          have y2 := kpw_cell f2
          have hsb := sm_bound S.b (k : Int) hSok.b (i + 1)
          have hsw : IntKind.i64.wrap (sm S.b i + S.b i) = sm S.b (i + 1) := by
            show IntKind.i64.wrap (sm S.b (i + 1)) = _
            have h3 : ((i + 1 : Nat) : Int) * k ≤ 64 * 60 := Int.mul_le_mul (by omega) (by omega) (by omega) (by omega)
            rw [IntKind.wrap_i64]
            omega
          clear hsb
          go_wp2_with fail
          refine wp_region_kp (by kernel_rfl) (by kernel_rfl) ?_
          repeat (first
            | go_big_quiet_skip
            | (go_big_quiet_want; go_big_quiet_op; go_big_quiet_on))
          refine wpQuiet_nil ?_
          rintro w9 ⟨p, hp9⟩
          have HK9 : Hid (Kp w6 w9) := by show Kp w6 w9; rw [hp9]; exact HKr.out.trans (kpw_kp _ p)
          clear hp9 y1 y2 f1 f2 HKr
          go_wp2
          go_roundw
          case rel => exact ⟨i + 1, by omega, by go_num, rfl, HK9⟩
          case measure => simp [intOf]; omega
        · obtain rfl : i = E := by omega
          have HT6 := hid (HT4.out.kp HKr.out)
          have HU6 := hid (HU4.out.kp HKr.out)
          have HK6 := hid (HK4.out.trans HKr.out)
          obtain ⟨wq, hwq⟩ : ∃ wq, wq = wr := ⟨_, rfl⟩
          rw [← hwq] at HT6 HU6 HK6
          clear HT4 HU4 HK4 HKr HBa HBb
          subst hwq
          go_wp2_with fail
          go_loopw [106] (fun i wr => ∃ i0 : Nat, i0 ≤ 9 ∧ i = .int .i64 i0 ∧ Hid (Kp wq wr)) (fun i _ => 9 - (intOf i).toNat)
          case atStart => exact ⟨0, by omega, by go_num, Kp.refl wq⟩
          case round =>
            obtain ⟨i0, hi0, rfl, HKr⟩ := hrel
            by_cases hlt3 : i0 < 9
            · have hg1 := get_any t S i0 wr (HT6.out.kp HKr.out)
              have hg2 := get_any u S i0 wr (HU6.out.kp HKr.out)
              go_wp2_with fail
              refine hg1.mono ?_; rintro e w7 ⟨rfl, rfl⟩
              go_wp2_with fail
              refine hg2.mono ?_; rintro e w8 ⟨rfl, rfl⟩
              go_wp2
              go_roundw
              case rel => exact ⟨i0 + 1, by omega, by go_num, HKr⟩
              case measure => simp [intOf]; omega
            · have hW := wakes_any wr (HNm.out.kp (HK6.out.trans HKr.out))
              have HKw := hid (HK6.out.trans HKr.out)
              rw [HSE.out]
              go_wp2_with fail
              refine hW.mono ?_; rintro e w7 ⟨rfl, k7⟩
              have HF := hid (HKw.out.trans k7)
              clear k7 hW
              go_wp2
              go_ret
              exact ⟨rfl, HF⟩

set_option maxRecDepth 100000 in
theorem lifted (os : Os) (started : os.Started) (H : Type) (enc : TypeId × Value → H) :
    ReturnsInHanded {} Tryd.checked os 5 .any (fun w args => (Rows.tallySumsSpec.pre enc Tryd.prog Tryd.f5 [] false w args ∧ laidMetH Tryd.prog lz w) ∧ sizedMet enc Tryd.prog Tryd.f5 (OpenSpec.ofChange Rows.tallySumsSpec) false w args)
      (Rows.tallySumsSpec.post enc Tryd.prog Tryd.f5 false true false false) := by
  refine returnsInHanded_of_change_and (C := Tryd.checked) (X := fun w _ => laidMetH Tryd.prog lz w) (fun _ _ _ hh h => h.of_heap hh) own started (by kernel_rfl) Tryd.func5
    (ChangeSpec.witness_shaped (enc := enc) (C := Tryd.checked) (os := os) (X := fun w _ => laidMetH Tryd.prog lz w) false (World.doorLaid Tryd.prog 400 os) #[.slice none 0 0] 8 rfl (World.shaped_of_RefB (by kernel_rfl) (by kernel_rfl)) (by kernel_rfl) (by kernel_rfl) (by kernel_rfl) (door_met os _)) ?_
  intro W base args ds gs before hval0 hW hcnd _ hL _
  have hval : ∀ (j : Nat) t v, Tryd.f5.params[j]? = some t → args[j]? = some v → Value.okWide Tryd.prog W .any base t v := hval0
  have hW' := hW
  have hlt := hW.lt
  obtain ⟨p, q, hA0, hV, rfl, hfz, hnd⟩ := hW
  have hA : DataW.TrodAll enc Tryd.prog W 0 (fun _ => true) true Tryd.f5.params.toList args.toList ds p := hA0
  have hAk := hA
  rw [Tryd.params5] at hA hval
  obtain ⟨v0, vs0, d0, ds0, p0, q0, hargs, rfl, rfl, h0, r0⟩ := trodAll_cons hA
  obtain ⟨rfl, rfl, rfl⟩ := trodAll_nil r0
  obtain rfl : args = #[v0] := by cases args; simp_all
  obtain ⟨rfl, rfl⟩ := trodVars_none hV
  obtain ⟨l0, w0⟩ := open_as4 (hval 0 22 v0 rfl rfl) h0
  clear hA0 hval0
  simp only [List.append_nil] at hW' hAk hlt
  refine (walk W (of_laid hL) v0 l0 w0).mono fun e W' ⟨he, hg⟩ => ?_
  subst he
  exact ⟨_, rfl, post_kp (pv := []) hW' (fun _ _ _ => (trodAll_cons_mk (shut_bool Tryd.underlying4 _) trodAll_mk0)) (fun sp hsp => trodAll_stays laidOut (by rw [Tryd.params5]; exact of_decide_eq_true (by kernel_rfl)) hAk (fun x hx => Below.same hg (hlt x hx)) hsp) (fun _ _ => rfl) (by simp) hg⟩

theorem over : Rows.tallySumsRow.holds Tryd.pinned (OpenSpec.ofChange Rows.tallySumsSpec) :=
  OpenClaim.holds_of_wide 5 Tryd.f5 rfl rfl rfl rfl rfl rfl rfl ⟨rfl, rfl, rfl, rfl, rfl⟩ rfl rfl rfl rfl rfl (by kernel_rfl) Tryd.func5 (by kernel_rfl)
    (of_decide_eq_true (by kernel_rfl)) (by unfold Func.isWrapper; first | (rw [if_pos (by decide +kernel)]; kernel_rfl) | (rw [if_neg (by decide +kernel)]; exact ⟨rfl, rfl⟩))
    (fun os started H enc _ => lifted os started H enc)

theorem card : Claim7.holds Tryd.pinned (.plain (OpenSpec.ofChange Rows.tallySumsSpec)) Rows.tallySumsCard :=
  Claim7.holds_tied_plain_at .later [] [.data] true Rows.tallySumsCard.stood.harness false
    over (fun _ h => by cases h) (by kernel_rfl) (fun _ h => by cases h) tallySums_row_tie rfl ⟨rfl, rfl⟩ (by kernel_rfl) rfl
    (fun f fn hf hfn => by
      have e : some f = some 5 := hf.symm.trans (by kernel_rfl)
      obtain rfl := Option.some.inj e
      obtain rfl : fn = Tryd.f5 := (Option.some.inj (Tryd.func5.symm.trans hfn)).symm
      exact ⟨by kernel_rfl, fun j t ht => by
        rw [Tryd.params5] at ht
        have hm : t ∈ [22] := by simpa using Array.mem_of_getElem? ht
        have hall : ([22].all fun u => !Tryd.prog.wantsStandIn u) = true := by kernel_rfl
        exact (show Tryd.prog.wantsStandIn t = false by simpa using List.all_eq_true.1 hall t hm)⟩)
    (by kernel_rfl)

end Go.Proofs.YtlhiienmhglieaaDoor.tallySums
namespace Go.Proofs.YtlhiienmhglieaaDoor
theorem tallySums_holds : Rows.TallySumsCardSaid := tallySums.card
end Go.Proofs.YtlhiienmhglieaaDoor
