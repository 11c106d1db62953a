/-
  Rows of a bay (layer 16): lost columns, a reader, Load, One, Whole. Conditions: that they lie in memory.
-/
import Derived.Test.YtonooelffokfkaaGreatDoorZRep
import Derived.Test.YtonooelffokfkaaGreatDoorZMk
import Derived.Test.YtonooelffokfkaaGreatDoorZGm
import Derived.Test.YtonooelffokfkaaGreatDoorZBay
import Derived.Deep.RegionWith
import Derived.Deep.RegionHeld3
namespace Go.Proofs.YtonooelffokfkaaGreatDoor
open Go.RowKit Plain
set_option linter.unusedVariables false

/-- what lies answers: the error, the members. -/
def lsE (L : LB) (t : Int) : Int := if lg L = true then (row L.n L.s t).2 else 4
def lsL (L : LB) (t : Int) : List Int := if lg L = true then (row L.n L.s t).1 else []
theorem ls_no {L : LB} (t : Int) (h : lg L = false) : lsE L t = 4 ∧ lsL L t = [] := by unfold lsE lsL; rw [h]; exact ⟨rfl, rfl⟩
theorem ls_yes {L : LB} (t : Int) (h : lg L = true) : lsE L t = (row L.n L.s t).2 ∧ lsL L t = (row L.n L.s t).1 := by unfold lsE lsL; rw [h]; exact ⟨rfl, rfl⟩
theorem ls_zero {L : LB} {t : Int} (h : lsE L t = 0) : lg L = true ∧ gg L.n L.s = true ∧ (0 ≤ t ∧ t < L.s) ∧ lsL L t = rowL L.n t := by
  cases e : lg L with
  | false => rw [(ls_no t e).1] at h; cases h
  | true =>
    have hg := ((lg_iff L).1 e).1
    rw [(ls_yes t e).1] at h
    by_cases ht : 0 ≤ t ∧ t < L.s
    · exact ⟨rfl, hg, ht, by rw [(ls_yes t e).2, row_0 hg ht]⟩
    · rw [row_3 hg ht] at h; cases h
theorem ls_ok {L : LB} {t : Int} (h : lg L = true) (ht : 0 ≤ t ∧ t < L.s) : lsE L t = 0 := by
  rw [(ls_yes t h).1, row_0 ((lg_iff L).1 h).1 ht]

/-- is a column lost? -/
def loP (L : LB) (D : List Int) (t : Int) (c : Nat) : Bool := hasB (inL D) (mM L.n t c) || !wh L (mM L.n t c) t
def loN (L : LB) (D : List Int) (t : Int) (k : Nat) : List Int := ((List.range k).filter (loP L D t)).map Int.ofNat
def loL (L : LB) (D : List Int) (t : Int) : List Int := if lsE L t = 0 then loN L D t L.n.toNat else []
theorem loN_yes {L : LB} {D : List Int} {t : Int} {k : Nat} (h : loP L D t k = true) : loN L D t (k + 1) = loN L D t k ++ [(k : Int)] := by
  unfold loN; rw [List.range_succ, List.filter_append, List.filter_cons, if_pos h]; simp
theorem loN_no {L : LB} {D : List Int} {t : Int} {k : Nat} (h : loP L D t k = false) : loN L D t (k + 1) = loN L D t k := by
  unfold loN; rw [List.range_succ, List.filter_append, List.filter_cons, if_neg (by simp [h])]; simp
theorem loN_len (L : LB) (D : List Int) (t : Int) (k : Nat) : (loN L D t k).length ≤ k := by
  unfold loN
  rw [List.length_map]
  exact Nat.le_trans (List.length_filter_le _ _) (by simp)
theorem loN_mem (L : LB) (D : List Int) (t : Int) (k : Nat) (x : Int) : x ∈ loN L D t k ↔ 0 ≤ x ∧ x < k ∧ loP L D t x.toNat = true := by
  unfold loN
  rw [List.mem_map]
  constructor
  · rintro ⟨c, hc, rfl⟩
    obtain ⟨h1, h2⟩ := List.mem_filter.1 hc
    have := List.mem_range.1 h1
    refine ⟨Int.natCast_nonneg _, by show ((c : Nat) : Int) < k; omega, ?_⟩
    show loP L D t ((c : Nat) : Int).toNat = true
    rw [Int.toNat_natCast]; exact h2
  · rintro ⟨h1, h2, h3⟩
    exact ⟨x.toNat, List.mem_filter.2 ⟨List.mem_range.2 (by omega), h3⟩, by show ((x.toNat : Nat) : Int) = x; omega⟩

/-! ### rows of numbers -/
theorem IntsAt.ints {w : World} {B : Nat} {v : Value} {l : List Int} (h : IntsAt w B v l) : IntsIn w v l := by
  cases h with
  | empty a cap h => exact .empty a cap h
  | some g cap l h0 h1 h2 hB hc => exact .some g 0 cap l h0 h1 h2 (fun i hi => by rw [Nat.zero_add]; exact hc i hi)
theorem OwnI.at0 {w : World} {base : Nat} {v : Value} {l : List Int} (h : OwnI w base v l) : IntsAt w base v l := by
  have h1 := FI.of h
  obtain ⟨a, cap, rfl, hn, hc, hg⟩ := h1.shape
  by_cases h0 : 0 < l.length
  · obtain ⟨g, rfl, hb⟩ := hg h0
    exact .some g cap l h0 hn (by unfold maxLen; omega) hb (fun i hi => h1.at i hi)
  · obtain rfl : l = [] := List.eq_nil_of_length_eq_zero (by omega)
    exact .empty a cap (by unfold maxLen; omega)
theorem InI.ints {w : World} {v : Value} {l : List Int} (h : InI w v l) : IntsIn w v l := by
  obtain ⟨a, g, cap, rfl, h1, h2, h3, h4⟩ := h
  by_cases h0 : 0 < l.length
  · obtain rfl := h3 h0
    exact .some g 0 cap l h0 h1 (by unfold maxLen; omega) (fun i hi => by rw [Nat.zero_add]; exact h4 i hi)
  · obtain rfl : l = [] := List.eq_nil_of_length_eq_zero (by omega)
    exact .empty a cap (by unfold maxLen; omega)
theorem Lv.ints {W w : World} {v : Value} {l : List Nat} (h : Lv W w v l) : IntsIn w v (l.map Int.ofNat) := by
  obtain ⟨a, g, cap, rfl, h1, h2, h3, h4⟩ := h
  by_cases h0 : 0 < l.length
  · obtain ⟨rfl, _, _⟩ := h3 h0
    have e : l.length = (l.map Int.ofNat).length := by simp
    rw [e]
    refine .some g 0 cap _ (by simpa using h0) (by simpa using h1) (by unfold maxLen; omega) (fun i hi => ?_)
    have hi' : i < l.length := by simpa using hi
    rw [Nat.zero_add, h4 i hi']
    simp [List.getD_eq_getElem?_getD, hi']
  · obtain rfl : l = [] := List.eq_nil_of_length_eq_zero (by omega)
    exact .empty a cap (by unfold maxLen; omega)

end Go.Proofs.YtonooelffokfkaaGreatDoor

namespace Go.Proofs.YtonooelffokfkaaGreatDoor
open Go.RowKit Plain
set_option linter.unusedVariables false

set_option maxRecDepth 100000 in
theorem lies_any (L : LB) (sv mv : Value) (t : Int) (w : World) (h1 : Nl w sv L.sts) (h2 : Nl w mv L.mks) : Calls Tryz.prog 41 #[lV L.n L.s L.ep sv mv, .int .i64 t] w fun e w' => ∃ v, e = .returned (.tuple #[v, .int .i64 (lsE L t)]) ∧ InI w' v (lsL L t) ∧ Kp w w' := by
  have hG := fun w' (k : Kp w w') => lgood_any L sv mv w' (h1.kept k) (h2.kept k)
  have hR := fun w' => row_any L.n L.s t w'
  have HY := @ls_yes L t
  have HN := @ls_no L t
  clear h1 h2
  obtain ⟨E, eE⟩ : ∃ E, E = lsE L t := ⟨_, rfl⟩
  obtain ⟨R, eR⟩ : ∃ R, R = lsL L t := ⟨_, rfl⟩
  rw [← eE, ← eR] at HY HN
  rw [← eE, ← eR]
  clear eE eR
  obtain ⟨n, s, ep, sts, mks⟩ := L
  simp only at *
  unfold lV at hG ⊢
  unfold gV at hR
  cases e1 : lg ⟨n, s, ep, sts, mks⟩ with
  | false =>
    rw [e1] at hG
    obtain ⟨rfl, rfl⟩ := HN e1
    clear hR HY HN e1
    go_enter Tryz.func41, Tryz.ntmps41
    go_wp2_with fail
    refine (hG _ ((Kp.refl w).alloc _)).mono ?_; rintro e w1 ⟨rfl, k1⟩
    have K1 : Kp w w1 := ((Kp.refl w).alloc _).trans k1
    clear hG k1
    go_wp2
    go_ret2
    exact ⟨_, rfl, InI.nil _, K1⟩
  | true =>
    rw [e1] at hG
    obtain ⟨rfl, rfl⟩ := HY e1
    clear HY HN e1
    go_enter Tryz.func41, Tryz.ntmps41
    go_wp2_with fail
    refine (hG _ ((Kp.refl w).alloc _)).mono ?_; rintro e w1 ⟨rfl, k1⟩
    obtain ⟨c0, c1, c2, c3, c4⟩ := (Lc.new w n s ep sv mv 30).kept k1
    have K1 : Kp w w1 := ((Kp.refl w).alloc _).trans k1
    clear hG k1
    go_wp2_with fail
    refine (hR _).mono ?_; rintro e w2 ⟨v, rfl, i2, k2⟩
    have K2 := K1.trans k2
    clear hR k2 K1 c0 c1 c2 c3 c4
    go_wp2
    go_ret2
    exact ⟨v, rfl, i2, K2⟩

set_option maxRecDepth 100000 in
set_option maxHeartbeats 2000000 in
theorem lost_any (L : LB) (sv mv : Value) (D : List Int) (dv : Value) (t : Int) (w : World) (h1 : Nl w sv L.sts) (h2 : Nl w mv L.mks) (hD : IntsIn w dv D) : Calls Tryz.prog 9 #[lV L.n L.s L.ep sv mv, dv, .int .i64 t] w fun e w' => ∃ v, e = .returned (.tuple #[v, .int .i64 (lsE L t)]) ∧ IntsAt w' w.heap.size v (loL L D t) ∧ Kp w w' := by
  have hI := fun w' (k : Kp w w') => lies_any L sv mv t w' (h1.kept k) (h2.kept k)
  have hO := fun w' (k : Kp w w') => of_any dv D w' (hD.kept k)
  have hW := fun w' (k : Kp w w') m => lwhole_any L sv mv m t w' (h1.kept k) (h2.kept k)
  have hH := fun i w' => has_any (inL D) i w'
  clear h1 h2 hD
  by_cases hz : lsE L t = 0
  case neg =>
    have HL : Hid (loL L D t = []) := if_neg hz
    clear hO hW hH
    obtain ⟨E, eE⟩ : ∃ E, E = lsE L t := ⟨_, rfl⟩
    rw [← eE] at hz hI ⊢
    clear eE
    unfold lV at hI ⊢
    go_enter Tryz.func9, Tryz.ntmps9
    go_wp2_with fail
    refine (hI _ ((Kp.refl w).alloc _)).mono ?_; rintro e w1 ⟨v, rfl, i1, k1⟩
    have K1 : Kp w w1 := ((Kp.refl w).alloc _).trans k1
    clear hI k1
    go_wp2
    go_ret2
    exact ⟨_, rfl, by rw [HL.out]; exact .empty none 0 (by unfold maxLen; omega), K1⟩
  obtain ⟨z1, z2, z3, z4⟩ := ls_zero hz
  have HL : Hid (loL L D t = loN L D t L.n.toNat) := if_pos hz
  obtain ⟨g1, g2, g3, g4⟩ := (gg_iff _ _).1 z2
  rw [hz, z4] at hI
  rw [hz]
  clear z1 z2 z3 z4 hz
  have HP : Hid (∀ c : Nat, loP L D t c = (hasB (inL D) (mM L.n t c) || !wh L (mM L.n t c) t)) := fun _ => rfl
  have HR : Hid ((rowL L.n t).length = L.n.toNat ∧ ∀ c, c < L.n.toNat → (rowL L.n t).getD c 0 = mM L.n t c) := ⟨rowL_len _ _, rowL_at _ _⟩
  obtain ⟨N, hN⟩ : ∃ N : Nat, L.n = N := ⟨L.n.toNat, by omega⟩
  have HNn : Hid (L.n = N) := hN
  have hN4 : 4 ≤ N := by omega
  have hN32 : N ≤ 32 := by omega
  rw [hN, Int.toNat_natCast] at HL HR
  rw [hN] at HP
  rw [hN] at hI hW ⊢
  clear hN g1 g2 g3 g4
  obtain ⟨s, es⟩ : ∃ s, s = L.s := ⟨_, rfl⟩
  obtain ⟨ep, eep⟩ : ∃ s, s = L.ep := ⟨_, rfl⟩
  rw [← es, ← eep] at hI hW ⊢
  clear es eep
  unfold lV at hI hW ⊢
  unfold SV at hO hH
  go_enter Tryz.func9, Tryz.ntmps9
  go_wp2_with fail
  refine (hI _ ((Kp.refl w).alloc _)).mono ?_; rintro e w1 ⟨v, rfl, i1, k1⟩
  have lc1 := (Lc.new w N s ep sv mv 30).kept k1
  have K1 : Kp w w1 := ((Kp.refl w).alloc _).trans k1
  obtain ⟨a, g, cap, rfl, x1, x2, x3, x4⟩ := i1
  obtain rfl := x3 (by rw [HR.out.1]; omega)
  rw [HR.out.1] at x1 x4
  rw [HR.out.1]
  clear hI k1 x3
  obtain ⟨c0, c1, c2, c3, c4⟩ := lc1
  go_wp2_with fail
  refine (hO _ K1).mono ?_; rintro e w2 ⟨rfl, k2⟩
  have K2 := K1.trans k2
  have X2 : Hid (∀ c, c < N → w2.cell? ⟨g, c, none⟩ = some (.int .i64 (mM N t c))) := fun c hc => by rw [k2.held (x4 c hc), HR.out.2 c hc]
  have d0 := k2.held c0
  have d1 := k2.held c1
  have d2 := k2.held c2
  have d3 := k2.held c3
  have d4 := k2.held c4
  clear hO k2 K1 x4 c0 c1 c2 c3 c4
  have hV : ∀ W', Kp w2 W' → Lc W' w.heap.size N s ep sv mv ∧ ∀ c, c < N → W'.cell? ⟨g, c, none⟩ = some (.int .i64 (mM N t c)) := fun W' k => ⟨⟨k.held d0, k.held d1, k.held d2, k.held d3, k.held d4⟩, fun c hc => k.held (X2.out c hc)⟩
  have HV := hid hV
  have hs2 : w.heap.size < w2.heap.size := World.block_lt_of_cell? _ _ d0
  clear hV X2
  go_wp2_with fail
  go_loopw [11, 28] (fun v i wr => ∃ k : Nat, k ≤ N ∧ i = .int .i64 k ∧ Hid (OwnI wr (w2.heap.size + 1) v (loN L D t k)) ∧ Hid (A4 wr w2.heap.size (wd (inL D))) ∧ Hid (Kp w2 wr)) (fun _ i _ => N - (intOf i).toNat)
  case atStart => exact ⟨0, by omega, by go_num, World.ownsRow_nil _ _ _ _, A4.new w2 _ _, (Kp.refl w2).alloc _⟩
  case round =>
    clear d0 d1 d2 d3 d4
    obtain ⟨k, hk, rfl, HO, HA, HK⟩ := hrel
    by_cases hlt : k < N
    · obtain ⟨⟨c0, c1, c2, c3, c4⟩, hx⟩ := HV.out _ HK.out
      have hxk := hx k hlt
      have hpk := HP.out k
      obtain ⟨e0, e1, e2, e3⟩ := HA.out.cells
      obtain ⟨m, em⟩ : ∃ m, m = mM N t k := ⟨_, rfl⟩
      rw [← em] at hxk hpk
      clear em hx
      cases eh : hasB (inL D) m with
      | true =>
        have hHm := hH m wr
        rw [eh] at hHm hpk
        have HY : Hid (loN L D t (k + 1) = loN L D t k ++ [(k : Int)]) := loN_yes (by rw [hpk]; rfl)
        clear hpk eh
        go_wp2_with fail
        refine hHm.mono ?_; rintro e w3 ⟨rfl, k3⟩
        have K3 : Kp w2 w3 := HK.out.trans k3
        have HO3 : Hid (OwnI w3 (w2.heap.size + 1) _ (loN L D t k)) := HO.out.kept k3
        have HA3 : Hid (A4 w3 w2.heap.size (wd (inL D))) := HA.out.kept k3
        have HL3 : Hid ((loN L D t k).length ≤ k) := loN_len _ _ _ _
        clear hHm HO HA HK k3 hxk c0 c1 c2 c3 c4 e0 e1 e2 e3
        go_wp2_with (at_builtin; refine wpList_append_int rfl _ _ rfl (w2.heap.size + 1) _ (loN L D t k) rfl (HO3.out.alloc _) (k : Int) _ rfl (by rw [World.cell?_alloc_at _ _ _ _ rfl]; rfl) (by have := HL3.out; omega) (by have := HA3.out.lt; simp; omega) ?_; intro u2 w4 ho2 hg2; have K4 : Hid (Kp w2 w4) := (K3.alloc _).grown hg2 (fun q hq => by have := own_lt HO3.out q hq; omega); have HA4 : Hid (A4 w4 w2.heap.size (wd (inL D))) := (HA3.out.alloc _).grown hg2 (fun q hq => by have := own_lt HO3.out q hq; omega); have HO4 : Hid (OwnI w4 (w2.heap.size + 1) u2 (loN L D t (k + 1))) := (by rw [HY.out]; exact ho2); clear ho2 hg2 HO3 HA3 K3 HL3)
        go_wp2
        go_roundw
        case rel => exact ⟨k + 1, by omega, by go_num, HO4, HA4, K4⟩
        case measure => simp [intOf]; omega
      | false =>
        have hHm := hH m wr
        have hWm := fun w' (k : Kp w w') => hW w' k m
        rw [eh] at hHm hpk
        rw [Bool.false_or] at hpk
        cases ew : wh L m t with
        | false =>
          rw [ew] at hWm hpk
          have HY : Hid (loN L D t (k + 1) = loN L D t k ++ [(k : Int)]) := loN_yes (by rw [hpk]; rfl)
          clear hpk eh ew
          go_wp2_with fail
          refine hHm.mono ?_; rintro e w3a ⟨rfl, k3a⟩
          have K3a : Kp w2 w3a := HK.out.trans k3a
          obtain ⟨⟨c0, c1, c2, c3, c4⟩, _⟩ := HV.out _ K3a
          go_wp2_with fail
          refine (hWm _ (K2.trans K3a)).mono ?_; rintro e w3 ⟨rfl, k3b⟩
          have k3 := k3a.trans k3b
          have K3 : Kp w2 w3 := HK.out.trans k3
          have HO3 : Hid (OwnI w3 (w2.heap.size + 1) _ (loN L D t k)) := HO.out.kept k3
          have HA3 : Hid (A4 w3 w2.heap.size (wd (inL D))) := HA.out.kept k3
          have HL3 : Hid ((loN L D t k).length ≤ k) := loN_len _ _ _ _
          clear hHm hWm HO HA HK k3 k3a k3b K3a hxk c0 c1 c2 c3 c4 e0 e1 e2 e3
          go_wp2_with (at_builtin; refine wpList_append_int rfl _ _ rfl (w2.heap.size + 1) _ (loN L D t k) rfl (HO3.out.alloc _) (k : Int) _ rfl (by rw [World.cell?_alloc_at _ _ _ _ rfl]; rfl) (by have := HL3.out; omega) (by have := HA3.out.lt; simp; omega) ?_; intro u2 w4 ho2 hg2; have K4 : Hid (Kp w2 w4) := (K3.alloc _).grown hg2 (fun q hq => by have := own_lt HO3.out q hq; omega); have HA4 : Hid (A4 w4 w2.heap.size (wd (inL D))) := (HA3.out.alloc _).grown hg2 (fun q hq => by have := own_lt HO3.out q hq; omega); have HO4 : Hid (OwnI w4 (w2.heap.size + 1) u2 (loN L D t (k + 1))) := (by rw [HY.out]; exact ho2); clear ho2 hg2 HO3 HA3 K3 HL3)
          go_wp2
          go_roundw
          case rel => exact ⟨k + 1, by omega, by go_num, HO4, HA4, K4⟩
          case measure => simp [intOf]; omega
        | true =>
          rw [ew] at hWm hpk
          have HY : Hid (loN L D t (k + 1) = loN L D t k) := loN_no (by rw [hpk]; rfl)
          clear hpk eh ew
          go_wp2_with fail
          refine hHm.mono ?_; rintro e w3a ⟨rfl, k3a⟩
          have K3a : Kp w2 w3a := HK.out.trans k3a
          obtain ⟨⟨c0, c1, c2, c3, c4⟩, _⟩ := HV.out _ K3a
          go_wp2_with fail
          refine (hWm _ (K2.trans K3a)).mono ?_; rintro e w3 ⟨rfl, k3b⟩
          have k3 := k3a.trans k3b
          have HO4 : Hid (OwnI w3 (w2.heap.size + 1) _ (loN L D t (k + 1))) := (by rw [HY.out]; exact HO.out.kept k3)
          have HA4 : Hid (A4 w3 w2.heap.size (wd (inL D))) := HA.out.kept k3
          have K4 : Hid (Kp w2 w3) := HK.out.trans k3
          clear hHm hWm HO HA HK k3 k3a k3b K3a hxk c0 c1 c2 c3 c4 e0 e1 e2 e3
          go_wp2
          go_roundw
          case rel => exact ⟨k + 1, by omega, by go_num, HO4, HA4, K4⟩
          case measure => simp [intOf]; omega
    · obtain rfl : k = N := by omega
      go_wp2
      go_ret2
      exact ⟨_, rfl, by rw [HL.out]; exact HO.out.at0.mono (by omega), K2.trans HK.out⟩

end Go.Proofs.YtonooelffokfkaaGreatDoor

namespace Go.Proofs.YtonooelffokfkaaGreatDoor
open Go.RowKit Plain
set_option linter.unusedVariables false

/-! ### which members are dead -/
theorem lv_mem : ∀ (L : List MS) (i x : Nat), x ∈ lvL i L ↔ i ≤ x ∧ x < i + L.length ∧ (L.getD (x - i) noM).dead = false
  | [], i, x => by simp [lvL]; omega
  | S :: L, i, x => by
    have ih := lv_mem L (i + 1) x
    simp only [lvL, List.length_cons]
    by_cases hx : x = i
    · subst hx
      have h1 : ¬ x ∈ lvL (x + 1) L := fun h => by have := (ih.1 h).1; omega
      cases hd : S.dead with
      | true => simp [h1, hd]
      | false => simp [hd]
    · have e : i ≤ x → x - i = x - (i + 1) + 1 := fun h => by omega
      cases hd : S.dead with
      | true =>
        rw [if_pos rfl, ih]
        constructor
        · rintro ⟨h1, h2, h3⟩
          refine ⟨by omega, by omega, ?_⟩
          rw [e (by omega), List.getD_cons_succ]; exact h3
        · rintro ⟨h1, h2, h3⟩
          rw [e (by omega), List.getD_cons_succ] at h3
          exact ⟨by omega, by omega, h3⟩
      | false =>
        rw [if_neg (by decide), List.mem_cons, ih]
        constructor
        · rintro (h | ⟨h1, h2, h3⟩)
          · exact absurd h hx
          · refine ⟨by omega, by omega, ?_⟩
            rw [e (by omega), List.getD_cons_succ]; exact h3
        · rintro ⟨h1, h2, h3⟩
          rw [e (by omega), List.getD_cons_succ] at h3
          exact .inr ⟨by omega, by omega, h3⟩
def ddF (B : BS) : Nat → Bool := lessF (upF (B.ms.length : Int)) (inL ((lvL 0 B.ms).map Int.ofNat))
def ddL (B : BS) : List Int := (Plain.fl 256 (ddF B)).map Int.ofNat
theorem dd_has {B : BS} (hB : B.ms.length ≤ 32) {m : Int} (h0 : 0 ≤ m) (h1 : m < B.ms.length) : hasB (inL (ddL B)) m = (bm B m).dead := by
  obtain ⟨i, rfl⟩ : ∃ i : Nat, m = i := ⟨m.toNat, by omega⟩
  unfold hasB ddL bm
  rw [decide_eq_true (by omega), Int.toNat_natCast, inL_fl 256 _ i (by omega), Bool.true_and]
  have e : inL ((lvL 0 B.ms).map Int.ofNat) i = !(B.ms.getD i noM).dead := by
    unfold inL
    rw [List.any_map]
    have hm := lv_mem B.ms 0 i
    rw [Nat.sub_zero, Nat.zero_add] at hm
    cases hd : (B.ms.getD i noM).dead with
    | true =>
      rw [hd] at hm
      rw [List.any_eq_false.2]
      · rfl
      · intro x hx he
        have : x = i := by have h9 : (x : Int) = i := by simpa using he
                           omega
        subst this
        have := (hm.1 hx).2.2
        simp at this
    | false =>
      rw [hd] at hm
      exact List.any_eq_true.2 ⟨i, hm.2 ⟨by omega, by omega, rfl⟩, by simp⟩
  unfold ddF lessF upF
  rw [e, decide_eq_true (by omega)]
  simp

/-! ### a reader -/
/-- a reader at r, its bay at b (blocks T), its fixer at f, the fixer's field at g. -/
structure RdX (w0 w : World) (r b f g : Nat) (T : List Nat) (B : BS) (cnt : Nat → Int) : Prop where
  hr : r < w.heap.size
  c0 : w.cell? ⟨r, 0, none⟩ = some (.pointer (some ⟨b, 0, none⟩))
  c1 : w.cell? ⟨r, 1, none⟩ = some (.pointer (some ⟨f, 0, none⟩))
  bay : Bw w0 w b T B
  fx : FixIn w f g cnt
  nr : r ∉ T
  nf : f ∉ T
  ng : g ∉ T
  rf : r ≠ f
  rg : r ≠ g
  lr : w0.heap.size ≤ r
  lf : w0.heap.size ≤ f
  lg : w0.heap.size ≤ g
theorem RdX.sp {w0 w w' : World} {r b f g : Nat} {T : List Nat} {B : BS} {cnt : Nat → Int} (h : RdX w0 w r b f g T B cnt) {T' : List Nat} (k : Sp T' w w') (hT : ∀ t, t ∈ r :: f :: g :: T → t ∉ T') : RdX w0 w' r b f g T B cnt :=
  ⟨Nat.lt_of_lt_of_le h.hr k.size, k.held h.c0 (hT _ (by simp)), k.held h.c1 (hT _ (by simp)), OL.bw.sp h.bay k (fun t ht => hT t (by simp [ht])), h.fx.sp k (hT _ (by simp)) (hT _ (by simp)), h.nr, h.nf, h.ng, h.rf, h.rg, h.lr, h.lf, h.lg⟩
theorem RdX.kp {w0 w w' : World} {r b f g : Nat} {T : List Nat} {B : BS} {cnt : Nat → Int} (h : RdX w0 w r b f g T B cnt) (k : Kp w w') : RdX w0 w' r b f g T B cnt := h.sp (k.sp []) (fun _ _ h => by cases h)
theorem RdX.new {w0 w : World} {r b f g : Nat} {T : List Nat} {B : BS} {cnt : Nat → Int} (h : RdX w0 w r b f g T B cnt) : ∀ t, t ∈ f :: g :: T → w0.heap.size ≤ t := fun t ht => by
  simp only [List.mem_cons] at ht
  rcases ht with rfl | rfl | ht
  · exact h.lf
  · exact h.lg
  · exact OL.bw.new h.bay t ht
theorem RdX.low {w0 w : World} {r b f g : Nat} {T : List Nat} {B : BS} {cnt : Nat → Int} (h : RdX w0 w r b f g T B cnt) : ∀ t, t ∈ f :: g :: T → t < w.heap.size := fun t ht => by
  simp only [List.mem_cons] at ht
  rcases ht with rfl | rfl | ht
  · exact h.fx.hf
  · exact h.fx.hb
  · exact OL.bw.low h.bay t ht
/-- behind calls on it, from W on. -/
def Rz (w0 W w' : World) (r b f g : Nat) (T : List Nat) (B : BS) (cnt : Nat → Int) : Prop := ∃ T', RdX w0 w' r b f g T' B cnt ∧ Sp (f :: g :: T) W w' ∧ Nw W T T'
theorem Rz.refl {w0 w : World} {r b f g : Nat} {T : List Nat} {B : BS} {cnt : Nat → Int} (h : RdX w0 w r b f g T B cnt) : Rz w0 w w r b f g T B cnt := ⟨T, h, Sp.refl _ _, Nw.refl _ _⟩
theorem Rz.kp {w0 W w w' : World} {r b f g : Nat} {T : List Nat} {B : BS} {cnt : Nat → Int} (h : Rz w0 W w r b f g T B cnt) (k : Kp w w') : Rz w0 W w' r b f g T B cnt := by
  obtain ⟨T', h1, h2, h3⟩ := h
  exact ⟨T', h1.kp k, h2.trans (k.sp _), h3⟩
theorem Rz.from {w0 W w w' : World} {r b f g : Nat} {T : List Nat} {B : BS} {cnt : Nat → Int} (k : Kp W w) (h : Rz w0 w w' r b f g T B cnt) : Rz w0 W w' r b f g T B cnt := by
  obtain ⟨T', h1, h2, h3⟩ := h
  exact ⟨T', h1, (k.sp _).trans h2, fun t ht => (h3 t ht).imp id (fun h => Nat.le_trans k.size h)⟩
theorem nw_fg {W : World} {f g : Nat} {T T' : List Nat} (h : Nw W T T') : Nw W (f :: g :: T) (f :: g :: T') := fun t ht => by
  simp only [List.mem_cons] at ht ⊢
  rcases ht with rfl | rfl | ht
  · exact .inl (.inl rfl)
  · exact .inl (.inr (.inl rfl))
  · exact (h t ht).imp (fun h => .inr (.inr h)) id
theorem Rz.trans {w0 W w w' : World} {r b f g : Nat} {T : List Nat} {B B' : BS} {cnt cnt' : Nat → Int} (h : Rz w0 W w r b f g T B cnt) (k : ∀ T', RdX w0 w r b f g T' B cnt → Rz w0 w w' r b f g T' B' cnt') : Rz w0 W w' r b f g T B' cnt' := by
  obtain ⟨T', h1, h2, h3⟩ := h
  obtain ⟨T2, q1, q2, q3⟩ := k T' h1
  exact ⟨T2, q1, h2.then q2 (nw_fg h3), h3.trans q3 h2.size⟩
/-- a call on the bay alone. -/
theorem RdX.bay2 {w0 w w' : World} {r b f g : Nat} {T : List Nat} {B B' : BS} {cnt : Nat → Int} (h : RdX w0 w r b f g T B cnt) (k : Nz Bw w0 w w' b T B') : Rz w0 w w' r b f g T B' cnt := by
  obtain ⟨T', h1, h2, h3⟩ := k
  have out : ∀ t, t < w.heap.size → t ∉ T → t ∉ T' := fun t h4 h5 ht => (h3 t ht).elim h5 (fun h => by omega)
  exact ⟨T', ⟨Nat.lt_of_lt_of_le h.hr h2.size, h2.held h.c0 h.nr, h2.held h.c1 h.nr, h1, h.fx.sp h2 h.nf h.ng, out _ h.hr h.nr, out _ h.fx.hf h.nf, out _ h.fx.hb h.ng, h.rf, h.rg, h.lr, h.lf, h.lg⟩, h2.mono (fun t ht => by simp [ht]), h3⟩
/-- the bay's call that leaves it as it was. -/
theorem RdX.still {w0 w w' : World} {r b f g : Nat} {T : List Nat} {B : BS} {cnt : Nat → Int} (h : RdX w0 w r b f g T B cnt) (k : Bw w0 w' b T B) (h2 : Sp T w w') : RdX w0 w' r b f g T B cnt :=
  ⟨Nat.lt_of_lt_of_le h.hr h2.size, h2.held h.c0 h.nr, h2.held h.c1 h.nr, k, h.fx.sp h2 h.nf h.ng, h.nr, h.nf, h.ng, h.rf, h.rg, h.lr, h.lf, h.lg⟩
theorem Rz.below {w0 W w' : World} {r b f g : Nat} {T : List Nat} {B B0 : BS} {cnt c0 : Nat → Int} (h : Rz w0 W w' r b f g T B cnt) (h0 : RdX w0 W r b f g T B0 c0) (K : Kp w0 W) : Kp w0 w' := by
  obtain ⟨T', h1, h2, h3⟩ := h
  exact Sp.kp K h2 h0.new
theorem Rz.held {w0 W w' : World} {r b f g : Nat} {T : List Nat} {B : BS} {cnt : Nat → Int} (h : Rz w0 W w' r b f g T B cnt) {c o : Nat} {v : Value} (hc : W.cell? ⟨c, o, none⟩ = some v) (hb : c ∉ f :: g :: T) : w'.cell? ⟨c, o, none⟩ = some v := by
  obtain ⟨T', h1, h2, h3⟩ := h
  exact h2.held hc hb

/-! ### the calls -/
set_option maxRecDepth 100000 in
theorem rnew_any' {w0 w : World} {b : Nat} {T : List Nat} {B : BS} (h : Bw w0 w b T B) (K : Kp w0 w) : Calls Tryz.prog 23 #[.pointer (some ⟨b, 0, none⟩)] w fun e w' => ∃ r f g, e = .returned (.pointer (some ⟨r, 0, none⟩)) ∧ RdX w0 w' r b f g T B (fun _ => 0) ∧ Kp w w' := by
  have hF := fnew_any w
  have HB := hid h
  have HK := hid K
  clear h K
  go_enter Tryz.func23, Tryz.ntmps23
  go_wp2_with fail
  refine hF.mono ?_; rintro e w1 ⟨f, g, rfl, f1, k1, q1, q2⟩
  have HF := hid f1
  have HK1 := hid k1
  clear hF f1 k1
  go_wp2
  go_ret
  have kk : Kp w1 (w1.alloc (.cells #[.pointer (some ⟨b, 0, none⟩), .pointer (some ⟨f, 0, none⟩)] 173)) := (Kp.refl w1).alloc _
  have lo := OL.bw.low HB.out
  have s0 := HK.out.size
  have s1 := HK1.out.size
  refine ⟨_, f, g, rfl, ⟨by simp, by simp, by simp, OL.bw.sp HB.out ((HK1.out.trans kk).sp []) (fun _ _ h => by cases h), HF.out.kp kk, fun ht => ?_, fun ht => ?_, fun ht => ?_, ?_, ?_, ?_, ?_, ?_⟩, HK1.out.trans kk⟩
  · have := lo _ ht; omega
  · have := lo _ ht; omega
  · have := lo _ ht; omega
  · have := HF.out.hf; omega
  · have := HF.out.hb; omega
  · omega
  · omega
  · omega

set_option maxRecDepth 100000 in
set_option maxHeartbeats 2000000 in
theorem rdead_any {w0 w : World} {r b f g : Nat} {T : List Nat} {B : BS} {cnt : Nat → Int} (h : RdX w0 w r b f g T B cnt) (K : Kp w0 w) (hT : Tab w0) : Calls Tryz.prog 71 #[.pointer (some ⟨r, 0, none⟩)] w fun e w' => ∃ v, e = .returned v ∧ IntsIn w' v (ddL B) ∧ RdX w0 w' r b f g T B cnt ∧ Sp T w w' := by
  have hn : B.ms.length ≤ 32 := by obtain ⟨m, X, F, _, h1⟩ := h.bay; exact h1.size.2
  have x0 := h.kp (Kp.refl w).drew
  have c0 := h.c0
  have hS := fun w' (k : RdX w0 w' r b f g T B cnt) => bw_size k.bay
  have hU := fun w' => upto_any (B.ms.length : Int) (by omega) w'
  have hV := fun w' (k : RdX w0 w' r b f g T B cnt) => bw_live k.bay
  have hO := fun v w' (k : IntsIn w' v ((lvL 0 B.ms).map Int.ofNat)) => of_any v _ w' k
  have hL := fun w' => less_any (upF (B.ms.length : Int)) (inL ((lvL 0 B.ms).map Int.ofNat)) w'
  have hI := fun w' (k : Tab w') => list_any (ddF B) w' k
  have HE : Hid (ddL B = (Plain.fl 256 (ddF B)).map Int.ofNat) := rfl
  have HD : Hid (lessF (upF (B.ms.length : Int)) (inL ((lvL 0 B.ms).map Int.ofNat)) = ddF B) := rfl
  have HK := hid K
  have HT := hid hT
  have HX := hid h
  have HNw : Hid (∀ t, t ∈ T → w0.heap.size ≤ t) := OL.bw.new h.bay
  clear h K hT
  go_enter Tryz.func71, Tryz.ntmps71
  go_wp2_with fail
  go_region_held3 (fun V => V.cell? ⟨r, 0, none⟩ = some (.pointer (some ⟨b, 0, none⟩))) (first | exact x6.c0 | exact x5.c0 | exact x4.c0 | exact x3.c0 | exact x2.c0 | exact x0.c0 | exact c0 | go_keep) (first
    | (go_at_call 14; refine (hS _ x0).mono ?_; rintro e w1 ⟨rfl, rfl⟩)
    | (go_at_call 123; refine (hU _).mono ?_; rintro e w2 ⟨rfl, k2⟩; have x2 := x0.kp k2)
    | (go_at_call 125; refine (hV _ x2).mono ?_; rintro e w3 ⟨v3, rfl, l3, b3, s3⟩; have x3 := x2.still b3 s3; have i3 := l3.ints)
    | (go_at_call 42; refine (hO _ _ i3).mono ?_; rintro e w4 ⟨rfl, k4⟩; have x4 := x3.kp k4)
    | (go_at_call 124; refine (hL _).mono ?_; rintro e w5 ⟨rfl, k5⟩; have x5 := x4.kp k5; rw [HD.out])
    | (go_at_call 126; refine (hI _ (HT.out.kp ((Sp.kp ((HK.out.drew).trans k2) s3 HNw.out).trans (k4.trans k5)))).mono ?_; rintro e w6 ⟨v6, rfl, i6, k6⟩; have x6 := x5.kp k6))
  go_wp2
  go_ret
  exact ⟨v6, rfl, by rw [HE.out]; exact i6, x6, ((((Kp.refl w).drew.trans k2).sp _).trans s3).trans ((k4.trans (k5.trans k6)).sp _)⟩

set_option maxRecDepth 100000 in
set_option maxHeartbeats 2000000 in
theorem gone_any {w0 w : World} {r b f g : Nat} {T : List Nat} {B : BS} {cnt : Nat → Int} (h : RdX w0 w r b f g T B cnt) (K : Kp w0 w) (hT : Tab w0) (L : LB) (sv mv : Value) (t : Int) (h1 : ∀ w', Sp (f :: g :: T) w w' → Nl w' sv L.sts ∧ Nl w' mv L.mks) : Calls Tryz.prog 28 #[.pointer (some ⟨r, 0, none⟩), lV L.n L.s L.ep sv mv, .int .i64 t] w fun e w' => ∃ v, e = .returned (.tuple #[v, .int .i64 (lsE L t)]) ∧ IntsAt w' w.heap.size v (loL L (ddL B) t) ∧ RdX w0 w' r b f g T B cnt ∧ Sp T w w' := by
  have hD := fun w' (k : Kp w w') => rdead_any (h.kp k) (K.trans k) hT
  have hL := fun dv w' (k : Sp (f :: g :: T) w w') (hi : IntsIn w' dv (ddL B)) => lost_any L sv mv (ddL B) dv t w' (h1 w' k).1 (h1 w' k).2 hi
  have HX := hid h
  have HnT : Hid (w.heap.size ∉ T) := fun ht => Nat.lt_irrefl _ (h.low _ (List.mem_cons_of_mem _ (List.mem_cons_of_mem _ ht)))
  clear h K hT h1
  obtain ⟨n, s, ep, sts, mks⟩ := L
  simp only at *
  obtain ⟨E, eE⟩ : ∃ E, E = lsE ⟨n, s, ep, sts, mks⟩ t := ⟨_, rfl⟩
  obtain ⟨R, eR⟩ : ∃ R, R = loL ⟨n, s, ep, sts, mks⟩ (ddL B) t := ⟨_, rfl⟩
  rw [← eE, ← eR] at hL ⊢
  clear eE eR
  unfold lV at hL ⊢
  go_enter Tryz.func28, Tryz.ntmps28
  go_wp2_with fail
  have lc0 := Lc.new w n s ep sv mv 30
  have kd : Kp w (w.alloc (.cells #[.int .i64 n, .int .i64 s, .int .i64 ep, sv, mv] 30)).drew := ((Kp.refl w).alloc _).drew
  have q0 : Lc (w.alloc (.cells #[.int .i64 n, .int .i64 s, .int .i64 ep, sv, mv] 30)).drew w.heap.size n s ep sv mv := lc0.kept (Kp.refl _).drew
  obtain ⟨c0, c1, c2, c3, c4⟩ := lc0
  obtain ⟨p0, p1, p2, p3, p4⟩ := q0
  go_region_held3 (fun V => V.cell? ⟨w.heap.size, 0, none⟩ = some (.int .i64 n) ∧ V.cell? ⟨w.heap.size, 1, none⟩ = some (.int .i64 s) ∧ V.cell? ⟨w.heap.size, 2, none⟩ = some (.int .i64 ep) ∧ V.cell? ⟨w.heap.size, 3, none⟩ = some sv ∧ V.cell? ⟨w.heap.size, 4, none⟩ = some mv) (first | exact ⟨z0.c0, z0.c1, z0.c2, z0.c3, z0.c4⟩ | exact ⟨y0.c0, y0.c1, y0.c2, y0.c3, y0.c4⟩ | exact ⟨p0, p1, p2, p3, p4⟩ | exact ⟨c0, c1, c2, c3, c4⟩ | go_keep) (first
    | (go_at_call 71; refine (hD _ kd).mono ?_; rintro e w2 ⟨v2, rfl, i2, x2, s2⟩; have S2 : Sp T w w2 := (kd.sp _).trans s2; have y0 : Lc w2 w.heap.size n s ep sv mv := ⟨s2.held p0 HnT.out, s2.held p1 HnT.out, s2.held p2 HnT.out, s2.held p3 HnT.out, s2.held p4 HnT.out⟩)
    | (go_at_call 9; refine (hL v2 _ (S2.mono (fun t ht => by simp [ht])) i2).mono ?_; rintro e w3 ⟨v3, rfl, i3, k3⟩; have z0 := y0.kept k3))
  go_wp2
  go_ret2
  exact ⟨v3, rfl, i3.mono S2.size, x2.kp k3, S2.trans (k3.sp _)⟩

set_option maxHeartbeats 1000000 in
theorem done_any {w : World} {f b : Nat} {cnt : Nat → Int} (h : FixIn w f b cnt) (k : Int) : Calls Tryz.prog 79 #[.pointer (some ⟨f, 0, none⟩), .int .i64 k] w fun e w' => e = .returned (.int .i64 (doneI cnt k)) ∧ w' = w := by
  have hK := known_any k w
  unfold doneI
  by_cases hb : 0 ≤ k ∧ k < 8
  · rw [if_pos hb]
    rw [show knB k = true from decide_eq_true hb] at hK
    obtain ⟨n, rfl⟩ : ∃ n : Nat, k = n := ⟨k.toNat, by omega⟩
    have hn : n < 8 := by omega
    have hc := h.c n hn
    rw [show ((n : Nat) : Int).toNat = n by omega]
    clear h hb
    go_enter Tryz.func79, Tryz.ntmps79
    go_wp2_with fail
    refine hK.mono ?_; rintro e w' ⟨rfl, rfl⟩
    go_wp2_with fail
    refine (count_load ⟨f, 1 + n, none⟩ (cnt n) _ hc).mono ?_; rintro e w' ⟨rfl, rfl⟩
    go_wp2
    go_ret
    exact ⟨rfl, rfl⟩
  · rw [if_neg hb]
    rw [show knB k = false from decide_eq_false hb] at hK
    clear hb h
    go_enter Tryz.func79, Tryz.ntmps79
    go_wp2_with fail
    refine hK.mono ?_; rintro e w' ⟨rfl, rfl⟩
    go_wp2
    go_ret
    exact ⟨rfl, rfl⟩
set_option maxRecDepth 100000 in
theorem fixed_any {w0 w : World} {r b f g : Nat} {T : List Nat} {B : BS} {cnt : Nat → Int} (h : RdX w0 w r b f g T B cnt) (k : Int) : Calls Tryz.prog 39 #[.pointer (some ⟨r, 0, none⟩), .int .i64 k] w fun e w' => e = .returned (.int .i64 (doneI cnt k)) ∧ w' = w := by
  have c1 := h.c1
  have hD := done_any (w := w) h.fx k
  clear h
  go_enter Tryz.func39, Tryz.ntmps39
  go_wp2_with fail
  refine hD.mono ?_; rintro e w1 ⟨rfl, rfl⟩
  go_wp2
  go_ret
  exact ⟨rfl, rfl⟩

end Go.Proofs.YtonooelffokfkaaGreatDoor

namespace Go.Proofs.YtonooelffokfkaaGreatDoor
open Go.RowKit Plain
set_option linter.unusedVariables false

/-! ### bays that are the same but for their counts -/
structure Sm (B B' : BS) : Prop where
  pw : B'.pw = B.pw
  len : B'.ms.length = B.ms.length
  now : ∀ i, (B'.ms.getD i noM).now = (B.ms.getD i noM).now
  las : ∀ i, (B'.ms.getD i noM).las = (B.ms.getD i noM).las
  row : ∀ i, (B'.ms.getD i noM).row = (B.ms.getD i noM).row
  dead : ∀ i, (B'.ms.getD i noM).dead = (B.ms.getD i noM).dead
theorem Sm.refl (B : BS) : Sm B B := ⟨rfl, rfl, fun _ => rfl, fun _ => rfl, fun _ => rfl, fun _ => rfl⟩
theorem Sm.trans {A B C : BS} (h : Sm A B) (k : Sm B C) : Sm A C :=
  ⟨k.pw.trans h.pw, k.len.trans h.len, fun i => (k.now i).trans (h.now i), fun i => (k.las i).trans (h.las i), fun i => (k.row i).trans (h.row i), fun i => (k.dead i).trans (h.dead i)⟩
theorem sm_read (B : BS) (i k : Int) : Sm B (rdB B i k) := by
  unfold rdB
  split
  · rename_i h
    obtain ⟨hf, _⟩ := stE_ok h
    obtain ⟨_, _, h3, _⟩ := bm_mem hf
    have key : ∀ j, (put B i (rd (bm B i) k)).ms.getD j noM = if j = i.toNat then rd (bm B i) k else B.ms.getD j noM := fun j => by
      show (B.ms.set i.toNat _).getD j noM = _
      by_cases e : j = i.toNat
      · subst e; rw [if_pos rfl]; exact getD_set_eq h3 _ _
      · rw [if_neg e]; exact getD_set_ne (fun h => e h.symm) _ _
    have rdf : (rd (bm B i) k).now = (bm B i).now ∧ (rd (bm B i) k).las = (bm B i).las ∧ (rd (bm B i) k).row = (bm B i).row ∧ (rd (bm B i) k).dead = (bm B i).dead := by
      unfold rd; split <;> exact ⟨rfl, rfl, rfl, rfl⟩
    refine ⟨rfl, by simp [put], fun j => ?_, fun j => ?_, fun j => ?_, fun j => ?_⟩ <;> (rw [key j]; split)
    · rename_i e; subst e; exact rdf.1
    · rfl
    · rename_i e; subst e; exact rdf.2.1
    · rfl
    · rename_i e; subst e; exact rdf.2.2.1
    · rfl
    · rename_i e; subst e; exact rdf.2.2.2
    · rfl
  · exact Sm.refl B
theorem Sm.st {B B' : BS} (h : Sm B B') (i : Int) : stE B' i = stE B i := by unfold stE fdE; rw [h.pw, h.len]
theorem Sm.rc {B B' : BS} (h : Sm B B') (i k : Int) : rcE (bm B' i) k = rcE (bm B i) k := by unfold rcE bm; rw [h.dead, h.las]
theorem Sm.rdT {B B' : BS} (h : Sm B B') (i k : Int) : rdT B' i k = rdT B i k := by
  unfold Go.Proofs.YtonooelffokfkaaGreatDoor.rdT rdS; rw [h.st, h.rc]; unfold bm; rw [h.now]
theorem Sm.rdE {B B' : BS} (h : Sm B B') (i k : Int) : rdE B' i k = rdE B i k := by unfold Go.Proofs.YtonooelffokfkaaGreatDoor.rdE; rw [h.st, h.rc]
theorem lv_same : ∀ (L L' : List MS) (i : Nat), L'.length = L.length → (∀ j, (L'.getD j noM).dead = (L.getD j noM).dead) → lvL i L' = lvL i L
  | [], [], _, _, _ => rfl
  | [], _ :: _, _, h, _ => by cases h
  | _ :: _, [], _, h, _ => by cases h
  | S :: L, S' :: L', i, h, hd => by
    have h0 : S'.dead = S.dead := by simpa using hd 0
    have ih := lv_same L L' (i + 1) (by simpa using h) (fun j => by have := hd (j + 1); rwa [List.getD_cons_succ, List.getD_cons_succ] at this)
    simp only [lvL, ih, h0]
theorem Sm.dd {B B' : BS} (h : Sm B B') : ddL B' = ddL B := by
  unfold ddL ddF; rw [h.len, lv_same B.ms B'.ms 0 h.len h.dead]

/-! ### read -/
def reT (B : BS) (n s t c : Int) : ByteArray := if (mem n s t c).2 = 0 then rdT B (mem n s t c).1 (100 + t) else noS
def reE (B : BS) (n s t c : Int) : Int := if (mem n s t c).2 = 0 then rdE B (mem n s t c).1 (100 + t) else (mem n s t c).2
def reB (B : BS) (n s t c : Int) : BS := if (mem n s t c).2 = 0 then rdB B (mem n s t c).1 (100 + t) else B
theorem sm_re (B : BS) (n s t c : Int) : Sm B (reB B n s t c) := by
  unfold reB; split
  · exact sm_read _ _ _
  · exact Sm.refl _
theorem mem_ok {n s t c : Int} (h : gg n s = true) (ht : 0 ≤ t ∧ t < s) (hc : 0 ≤ c ∧ c < n) : mem n s t c = (mM n t c, 0) := (if_pos h).trans (if_pos ⟨ht, hc⟩)
theorem mem_no {n s t c : Int} (h : gg n s = true) (hc : ¬ (0 ≤ c ∧ c < n)) : mem n s t c = (0, 3) := (if_pos h).trans (if_neg (fun hh => hc hh.2))
theorem mem_zero {n s t c : Int} (h : (mem n s t c).2 = 0) : gg n s = true ∧ 0 ≤ t ∧ t < s := by
  unfold mem at h
  split at h
  · rename_i hg
    split at h
    · rename_i h2; exact ⟨hg, h2.1⟩
    · cases h
  · cases h
set_option maxRecDepth 100000 in
theorem rrd_any {w0 w : World} {r b f g : Nat} {T : List Nat} {B : BS} {cnt : Nat → Int} (h : RdX w0 w r b f g T B cnt) (K : Kp w0 w) (n s ep : Int) (sv mv : Value) (t c : Int) : Calls Tryz.prog 70 #[.pointer (some ⟨r, 0, none⟩), lV n s ep sv mv, .int .i64 t, .int .i64 c] w fun e w' => e = .returned (.tuple #[.string (reT B n s t c), .int .i64 (reE B n s t c)]) ∧ Rz w0 w w' r b f g T (reB B n s t c) cnt := by
  have hM := fun w' => member_anyL9 n s t c w'
  have hS := fun w' => sector_anyL9 n s t w'
  have hR := fun w' (k : Kp w w') i k' => bw_read (h.kp k).bay (K.trans k) i k'
  have HX := hid h
  clear h K
  by_cases hz : (mem n s t c).2 = 0
  · have HT : Hid (reT B n s t c = rdT B (mem n s t c).1 (100 + t)) := if_pos hz
    have HE : Hid (reE B n s t c = rdE B (mem n s t c).1 (100 + t)) := if_pos hz
    have HB : Hid (reB B n s t c = rdB B (mem n s t c).1 (100 + t)) := if_pos hz
    obtain ⟨z1, z2⟩ := mem_zero hz
    have hsec : sec n s t = (100 + t, 0) := (if_pos z1).trans (if_pos z2)
    rw [hsec] at hS
    unfold pT at hM hS
    rw [hz] at hM
    obtain ⟨m, em⟩ : ∃ m, m = (mem n s t c).1 := ⟨_, rfl⟩
    rw [← em] at hM HT HE HB
    clear em hz z1 z2 hsec
    simp only at hS
    have hRm := fun w' (k : Kp w w') => hR w' k m (100 + t)
    unfold lV gV at *
    go_enter Tryz.func70, Tryz.ntmps70
    go_wp2_with fail
    refine (hM _).mono ?_; rintro e w1 ⟨rfl, k1⟩
    obtain ⟨c0, c1, c2, c3, c4⟩ := (Lc.new w n s ep sv mv 30).kept k1
    have K1 : Kp w w1 := ((Kp.refl w).alloc _).trans k1
    clear hM k1
    go_wp2_with fail
    refine (hS _).mono ?_; rintro e w2 ⟨rfl, k2⟩
    have K2 : Kp w w2 := K1.trans k2
    have x2 := HX.out.kp K2
    have r0 := x2.c0
    clear hS k2 K1 c0 c1 c2 c3 c4
    go_wp2_with fail
    refine (hRm _ K2).mono ?_; rintro e w3 ⟨rfl, n3⟩
    have z3 := Rz.from K2 (x2.bay2 n3)
    clear hRm hR n3 r0
    go_wp2
    go_ret2
    exact ⟨by rw [HT.out, HE.out]; rfl, by rw [HB.out]; exact z3⟩
  · have HT : Hid (reT B n s t c = noS) := if_neg hz
    have HE : Hid (reE B n s t c = (mem n s t c).2) := if_neg hz
    have HB : Hid (reB B n s t c = B) := if_neg hz
    unfold pT at hM
    obtain ⟨m, em⟩ : ∃ m, m = (mem n s t c).1 := ⟨_, rfl⟩
    obtain ⟨E, eE⟩ : ∃ m, m = (mem n s t c).2 := ⟨_, rfl⟩
    rw [← em, ← eE] at hM
    rw [← eE] at HE hz
    clear em eE hR hS
    unfold lV gV at *
    go_enter Tryz.func70, Tryz.ntmps70
    go_wp2_with fail
    refine (hM _).mono ?_; rintro e w1 ⟨rfl, k1⟩
    have K1 : Kp w w1 := ((Kp.refl w).alloc _).trans k1
    clear hM k1
    go_wp2
    go_ret2
    exact ⟨by rw [HT.out, HE.out]; rfl, by rw [HB.out]; exact (Rz.refl HX.out).kp K1⟩

/-! ### the others -/
def isG (G : List Int) (c : Nat) : Bool := hasB (inL G) (c : Int)
/-- the first error, of the first k columns. -/
def roE (B : BS) (n t : Int) (G : List Int) : Nat → Int
  | 0 => 0
  | k + 1 => if roE B n t G k = 0 then (if isG G k = true then 0 else rdE B (mM n t k) (100 + t)) else roE B n t G k
/-- the columns behind the first k. -/
def roC (B : BS) (n t : Int) (G : List Int) (k c : Nat) : ByteArray := if c < k ∧ isG G c = false then rdT B (mM n t c) (100 + t) else noS
def roK (B : BS) (n t : Int) (G : List Int) (N k : Nat) : List ByteArray := (List.range N).map (roC B n t G k)
theorem roK_len (B : BS) (n t : Int) (G : List Int) (N k : Nat) : (roK B n t G N k).length = N := by simp [roK]
theorem roK_at (B : BS) (n t : Int) (G : List Int) (N k c : Nat) (hc : c < N) : (roK B n t G N k).getD c noS = roC B n t G k c := by
  simp [roK, List.getD_eq_getElem?_getD, hc]
theorem roK_same (B : BS) (n t : Int) (G : List Int) (N k : Nat) (h : isG G k = true) : roK B n t G N (k + 1) = roK B n t G N k := by
  unfold roK
  refine List.map_congr_left fun c _ => ?_
  unfold roC
  by_cases e : c = k
  · subst e; rw [if_neg (by simp [h]), if_neg (by simp [h])]
  · by_cases hc : c < k ∧ isG G c = false
    · rw [if_pos ⟨by omega, hc.2⟩, if_pos hc]
    · rw [if_neg (fun h => hc ⟨by omega, h.2⟩), if_neg hc]
theorem roK_set (B : BS) (n t : Int) (G : List Int) (N k : Nat) (hk : k < N) (h : isG G k = false) : (roK B n t G N k).set k (rdT B (mM n t k) (100 + t)) = roK B n t G N (k + 1) := by
  refine list_eq (by simp [roK_len]) fun c hc => ?_
  rw [List.length_set, roK_len] at hc
  rw [roK_at _ _ _ _ _ _ _ hc]
  by_cases e : c = k
  · subst e
    rw [getD_set_eq (by rw [roK_len]; exact hc)]
    unfold roC; rw [if_pos ⟨by omega, h⟩]
  · rw [getD_set_ne (fun h => e h.symm), roK_at _ _ _ _ _ _ _ hc]
    unfold roC
    by_cases hc2 : c < k ∧ isG G c = false
    · rw [if_pos hc2, if_pos ⟨by omega, hc2.2⟩]
    · rw [if_neg hc2, if_neg (fun h => hc2 ⟨by omega, h.2⟩)]
theorem roE_stop {B : BS} {n t : Int} {G : List Int} {k : Nat} (h : roE B n t G k ≠ 0) : ∀ N, k ≤ N → roE B n t G N = roE B n t G k
  | 0, hk => by obtain rfl : k = 0 := by omega
                rfl
  | N + 1, hk => by
    by_cases e : k = N + 1
    · rw [e]
    · have ih := roE_stop h N (by omega)
      show (if roE B n t G N = 0 then _ else roE B n t G N) = _
      rw [ih, if_neg h]
theorem ColIn.made (w : World) (N : Nat) : ColIn (w.alloc (.cells (madeCells #[.string ByteArray.empty] N) 9)) w.heap.size (List.replicate N noS) := by
  refine ⟨by simp, fun i hi => ?_, fun o => by simp⟩
  rw [List.length_replicate] at hi
  rw [World.cell?_alloc_at _ _ _ _ rfl]
  simp [madeCells, hi, Nat.mod_one, List.getD_eq_getElem?_getD, noS]
  rfl
theorem ro_start (B : BS) (n t : Int) (G : List Int) (N : Nat) : roK B n t G N 0 = List.replicate N noS := by
  unfold roK
  rw [List.eq_replicate_iff]
  refine ⟨by simp, fun b hb => ?_⟩
  obtain ⟨c, _, rfl⟩ := List.mem_map.1 hb
  unfold roC
  rw [if_neg (by omega)]
theorem A4.sp {w w' : World} {b : Nat} {v : Nat → Nat} {T : List Nat} (h : A4 w b v) (k : Sp T w w') (hb : b ∉ T) : A4 w' b v := h.of_block (k.block b h.lt hb) k.size
theorem Lc.sp {w w' : World} {b : Nat} {n s ep : Int} {sv mv : Value} {T : List Nat} (h : Lc w b n s ep sv mv) (k : Sp T w w') (hb : b ∉ T) : Lc w' b n s ep sv mv := ⟨k.held h.c0 hb, k.held h.c1 hb, k.held h.c2 hb, k.held h.c3 hb, k.held h.c4 hb⟩
theorem nw_c {W : World} {c : Nat} {T T' : List Nat} (h : Nw W T T') : Nw W (c :: T) (c :: T') := fun t ht => by
  simp only [List.mem_cons] at ht ⊢
  rcases ht with rfl | ht
  · exact .inl (.inl rfl)
  · exact (h t ht).imp (fun h => .inr h) id
theorem nw_out {W : World} {c : Nat} {T T' : List Nat} (h : Nw W T T') (hc : c < W.heap.size) (hn : c ∉ T) : c ∉ T' := fun ht => (h c ht).elim hn (fun h => by omega)
/-- stores into a block that came later are none to what was there. -/
theorem Sp.drop {w W w' : World} {c : Nat} {T : List Nat} (k : Kp w W) (h : Sp (c :: T) W w') (hc : w.heap.size ≤ c) : Sp T w w' :=
  ⟨h.os.trans k.os, h.tape.trans k.tape, h.output.trans k.output, Nat.le_trans k.size h.size, fun i hi hn => (h.block i (Nat.lt_of_lt_of_le hi k.size) (fun ht => by
    rcases List.mem_cons.1 ht with rfl | ht
    · omega
    · exact hn ht)).trans (k.block i hi)⟩

set_option maxRecDepth 100000 in
set_option maxHeartbeats 2000000 in
theorem others_any {w0 w : World} {r b f g : Nat} {T : List Nat} {B : BS} {cnt : Nat → Int} (h : RdX w0 w r b f g T B cnt) (K : Kp w0 w) (N : Nat) (s ep : Int) (sv mv : Value) (t : Int) (hg : gg N s = true) (ht : 0 ≤ t ∧ t < s) (gv : Value) (G : List Int) (hG : IntsIn w gv G) : Calls Tryz.prog 63 #[.pointer (some ⟨r, 0, none⟩), lV N s ep sv mv, .int .i64 t, gv] w fun e w' => ∃ v B', e = .returned (.tuple #[v, .int .i64 (roE B N t G N)]) ∧ (roE B N t G N = 0 → StrsIn w' v (roK B N t G N N)) ∧ Sm B B' ∧ Rz w0 w w' r b f g T B' cnt := by
  obtain ⟨g1, g2, g3, g4⟩ := (gg_iff _ _).1 hg
  have hO := fun w' (k : Kp w w') => of_any gv G w' (hG.kept k)
  have hH := fun i w' => has_any (inL G) i w'
  have hR := fun w' T' B' (k : Kp w0 w') (x : RdX w0 w' r b f g T' B' cnt) c => rrd_any x k N s ep sv mv t c
  have HX := hid h
  have HK := hid K
  have HM : Hid (∀ c : Nat, c < N → mem N s t c = (mM N t c, 0)) := fun c hc => mem_ok hg ht ⟨by omega, by omega⟩
  have hN : 4 ≤ N := by omega
  have hN2 : N ≤ 32 := by omega
  have HLo : Hid (∀ x, x ∈ f :: g :: T → x < w.heap.size) := h.low
  have HNe : Hid (∀ x, x ∈ f :: g :: T → w0.heap.size ≤ x) := h.new
  clear h K hg ht g1 g2 g3 g4 hG
  unfold SV at hO hH
  unfold lV at hR ⊢
  go_enter Tryz.func63, Tryz.ntmps63
  go_wp2_with fail
  refine (hO _ ((Kp.refl w).alloc _)).mono ?_; rintro e w1 ⟨rfl, k1⟩
  obtain ⟨c0, c1, c2, c3, c4⟩ := (Lc.new w N s ep sv mv 30).kept k1
  have K1 : Kp w w1 := ((Kp.refl w).alloc _).trans k1
  have hs1 : w.heap.size < w1.heap.size := World.block_lt_of_cell? _ _ c0
  clear hO k1
  obtain ⟨W1, hW1⟩ : ∃ W1, W1 = w1.alloc (.cells (w4 (wd (inL G))) 115) := ⟨_, rfl⟩
  have hmk : (Instr.makeSlice 67 (.int .i64 (N : Int)) (.int .i64 (N : Int))).run Tryz.prog W1 = .ok (.slice (some ⟨W1.heap.size, 0, none⟩) N N) (W1.alloc (.cells (madeCells #[.string ByteArray.empty] N) 9)) := run_make_row' (P := Tryz.prog) 67 9 (.string ByteArray.empty) 16 Tryz.underlying67 info_str rfl .i64 .i64 N (by omega) (by omega) W1
  have hs2 : W1.heap.size = w1.heap.size + 1 := by rw [hW1]; simp
  have A1 : A4 W1 w1.heap.size (wd (inL G)) := by rw [hW1]; exact A4.new w1 _ _
  have KW : Kp w1 W1 := by rw [hW1]; exact (Kp.refl w1).alloc _
  have C2 := ColIn.made W1 N
  rw [← ro_start B N t G N] at C2
  obtain ⟨W2, hW2⟩ : ∃ W2, W2 = W1.alloc (.cells (madeCells #[.string ByteArray.empty] N) 9) := ⟨_, rfl⟩
  rw [← hW2] at hmk C2
  have KW2 : Kp W1 W2 := by rw [hW2]; exact (Kp.refl W1).alloc _
  have x2 : RdX w0 W2 r b f g T B cnt := HX.out.kp ((K1.trans KW).trans KW2)
  have HK2 : Hid (Kp w W2) := (K1.trans KW).trans KW2
  have A2 : A4 W2 w1.heap.size (wd (inL G)) := A1.kept KW2
  have L2 : Lc W2 w.heap.size N s ep sv mv := (Lc.kept ⟨c0, c1, c2, c3, c4⟩ (KW.trans KW2))
  have d0 := KW.held c0
  have e0 := KW2.held d0
  have hnT1 : Hid (w1.heap.size ∉ W1.heap.size :: f :: g :: T) := fun ht => by
    rcases List.mem_cons.1 ht with h | h
    · omega
    · have := HLo.out _ h; omega
  have hnT0 : Hid (w.heap.size ∉ W1.heap.size :: f :: g :: T) := fun ht => by
    rcases List.mem_cons.1 ht with h | h
    · omega
    · have := HLo.out _ h; omega
  have hnTc : Hid (W1.heap.size ∉ f :: g :: T) := fun ht => by
    have := HLo.out _ ht; omega
  have hs3 : Hid (w.heap.size ≤ W1.heap.size ∧ w0.heap.size ≤ w.heap.size ∧ W1.heap.size < W2.heap.size) := ⟨by omega, HK.out.size, C2.hC⟩
  have hW1' : w1.alloc (.cells #[.int .u64 ((wd (inL G) 0 : Nat) : Int), .int .u64 ((wd (inL G) 1 : Nat) : Int), .int .u64 ((wd (inL G) 2 : Nat) : Int), .int .u64 ((wd (inL G) 3 : Nat) : Int)] 115) = W1 := hW1.symm
  have hw0 : w.heap.size < W1.heap.size := by omega
  clear hW1 hW2 A1 KW KW2 hs2
  go_wp2_with (first | (rw [hW1']) | fail)
  have HA2 := hid A2
  have HL2 := hid L2
  have hcb : Hid (W1.heap.size < W2.heap.size) := C2.hC
  clear A2 L2 d0 e0 c0 c1 c2 c3 c4 K1 hs1 hmk hW1' hw0
  go_loopw [24] (fun i wr => ∃ (k : Nat) (T' : List Nat) (B' : BS), k ≤ N ∧ i = .int .i64 k ∧ Hid (roE B N t G k = 0) ∧ Hid (RdX w0 wr r b f g T' B' cnt) ∧ Hid (Sm B B') ∧ Hid (Sp (W1.heap.size :: f :: g :: T) W2 wr) ∧ Hid (Nw W2 T T') ∧ Hid (ColIn wr W1.heap.size (roK B N t G N k))) (fun i _ => N - (intOf i).toNat)
  case atStart => exact ⟨0, T, B, by omega, by go_num, rfl, x2, Sm.refl B, Sp.refl _ _, Nw.refl _ _, C2⟩
  case round =>
    clear x2 C2
    obtain ⟨k, T', B', hk, rfl, HE, HR, HS, HP, HN, HC⟩ := hrel
    by_cases hlt : k < N
    · obtain ⟨e0, e1, e2, e3⟩ := (HA2.out.sp HP.out hnT1.out).cells
      obtain ⟨c0, c1, c2, c3, c4⟩ := HL2.out.sp HP.out hnT0.out
      have hHk := hH (k : Int) wr
      rw [show hasB (inL G) (k : Int) = isG G k from rfl] at hHk
      have hKr : Hid (Kp w0 wr) := Sp.kp (HK.out.trans HK2.out) HP.out (fun x hx => by
        rcases List.mem_cons.1 hx with rfl | hx
        · have := hs3.out; omega
        · exact HNe.out x hx)
      cases eg : isG G k with
      | true =>
        have HE1 : Hid (roE B N t G (k + 1) = 0) := by
          show (if roE B N t G k = 0 then _ else _) = _
          rw [if_pos HE.out, if_pos eg]
        have HK1 : Hid (roK B N t G N (k + 1) = roK B N t G N k) := roK_same _ _ _ _ _ _ eg
        rw [eg] at hHk
        go_wp2_with fail
        refine hHk.mono ?_; rintro e w3 ⟨rfl, k3⟩
        have HR3 : Hid (RdX w0 w3 r b f g T' B' cnt) := HR.out.kp k3
        have HP3 : Hid (Sp (W1.heap.size :: f :: g :: T) W2 w3) := HP.out.trans (k3.sp _)
        have HC3 : Hid (ColIn w3 W1.heap.size (roK B N t G N (k + 1))) := by rw [HK1.out]; exact HC.out.sp (k3.sp []) (by simp)
        clear hHk HR HP HC HK1 HE k3 hKr e0 e1 e2 e3 c0 c1 c2 c3 c4 eg
        go_wp2
        go_roundw
        case rel => exact ⟨k + 1, T', B', by omega, by go_num, HE1, HR3, HS, HP3, HN, HC3⟩
        case measure => simp [intOf]; omega
      | false =>
        rw [eg] at hHk
        have HE1 : Hid (roE B N t G (k + 1) = rdE B (mM N t k) (100 + t)) := by
          show (if roE B N t G k = 0 then _ else _) = _
          rw [if_pos HE.out, if_neg (by simp [eg])]
        have HK1 : Hid ((roK B N t G N k).set k (rdT B (mM N t k) (100 + t)) = roK B N t G N (k + 1)) := roK_set _ _ _ _ _ _ hlt eg
        go_wp2_with fail
        refine hHk.mono ?_; rintro e w3 ⟨rfl, k3⟩
        have HR3 : Hid (RdX w0 w3 r b f g T' B' cnt) := HR.out.kp k3
        have HP3 : Hid (Sp (W1.heap.size :: f :: g :: T) W2 w3) := HP.out.trans (k3.sp _)
        have HC3 : Hid (ColIn w3 W1.heap.size (roK B N t G N k)) := HC.out.sp (k3.sp []) (by simp)
        obtain ⟨c0, c1, c2, c3, c4⟩ := HL2.out.sp HP3.out hnT0.out
        have hRk := hR w3 T' B' (hKr.out.trans k3) HR3.out (k : Int)
        have em := HM.out k hlt
        rw [show reT B' N s t k = rdT B (mM N t k) (100 + t) by unfold reT; rw [em, if_pos rfl]; exact HS.out.rdT _ _, show reE B' N s t k = rdE B (mM N t k) (100 + t) by unfold reE; rw [em, if_pos rfl]; exact HS.out.rdE _ _] at hRk
        have HS4 : Hid (Sm B (reB B' N s t k)) := HS.out.trans (sm_re _ _ _ _ _)
        clear hHk HR HP HC HE k3 hKr e0 e1 e2 e3 eg em HS
        obtain ⟨E, eE⟩ : ∃ E, E = rdE B (mM N t k) (100 + t) := ⟨_, rfl⟩
        obtain ⟨X, eX⟩ : ∃ E, E = rdT B (mM N t k) (100 + t) := ⟨_, rfl⟩
        rw [← eE, ← eX] at hRk
        rw [← eE] at HE1
        rw [← eX] at HK1
        clear eE eX
        go_wp2_with fail
        refine hRk.mono ?_; rintro e w4 ⟨rfl, z4⟩
        obtain ⟨T4, x4, p4, n4⟩ := z4
        have hcT : Hid (W1.heap.size ∉ f :: g :: T') := nw_out (nw_fg HN.out) hcb.out hnTc.out
        have HP4 : Hid (Sp (W1.heap.size :: f :: g :: T) W2 w4) := HP3.out.then (p4.mono (fun x hx => List.mem_cons_of_mem _ hx)) (nw_c (nw_fg HN.out))
        have HN4 : Hid (Nw W2 T T4) := HN.out.trans n4 HP3.out.size
        have HC4 : Hid (ColIn w4 W1.heap.size (roK B N t G N k)) := HC3.out.sp p4 hcT.out
        have HX4 := hid x4
        clear hRk HR3 HP3 HC3 x4 p4 n4 c0 c1 c2 c3 c4
        by_cases hE : E = 0
        · subst hE
          have hz4 := HC4.out.z k
          have hcell := HC4.out.c k (by rw [roK_len]; exact hlt)
          have HC5 : Hid (ColIn (w4.setCell ⟨W1.heap.size, k, none⟩ (.string X)) W1.heap.size (roK B N t G N (k + 1))) := by rw [← HK1.out]; exact HC4.out.set k (by rw [roK_len]; exact hlt) X
          have p5 : Sp [W1.heap.size] w4 (w4.setCell ⟨W1.heap.size, k, none⟩ (.string X)) := (Sp.refl _ _).set _ _ (by simp) _
          have HX5 : Hid (RdX w0 (w4.setCell ⟨W1.heap.size, k, none⟩ (.string X)) r b f g T4 (reB B' N s t k) cnt) := HX4.out.sp p5 (fun x hx hm => by
            have hx1 : x = W1.heap.size := by simpa using hm
            subst hx1
            rcases List.mem_cons.1 hx with rfl | hx
            · have h8 := HX.out.hr
              have := hs3.out
              omega
            · exact nw_out (nw_fg HN4.out) hcb.out hnTc.out hx)
          have HP5 : Hid (Sp (W1.heap.size :: f :: g :: T) W2 (w4.setCell ⟨W1.heap.size, k, none⟩ (.string X))) := HP4.out.trans (p5.mono (fun x hx => by rw [List.mem_singleton.1 hx]; exact List.mem_cons_self))
          clear HC4 HX4 HP4 p5 HK1
          go_wp2
          go_roundw
          case rel => exact ⟨k + 1, T4, _, by omega, by go_num, HE1, HX5, HS4, HP5, HN4, HC5⟩
          case measure => simp [intOf]; omega
        · have HF : Hid (roE B N t G N = E) := by
            show roE B N t G N = E
            rw [roE_stop (by rw [HE1.out]; exact hE) N (by omega)]; exact HE1.out
          clear HC4 HK1 HE1
          go_wp2
          go_ret2
          exact ⟨_, _, by rw [HF.out]; rfl, fun h => absurd (HF.out.symm.trans h) hE, HS4.out, T4, HX4.out, Sp.drop HK2.out HP4.out hs3.out.1, fun x hx => (HN4.out x hx).imp id (fun h => Nat.le_trans HK2.out.size h)⟩
    · obtain rfl : k = N := by omega
      go_wp2
      go_ret2
      refine ⟨_, B', by rw [HE.out]; rfl, fun _ => ?_, HS.out, T', HR.out, Sp.drop HK2.out HP.out hs3.out.1, fun x hx => (HN.out x hx).imp id (fun h => Nat.le_trans HK2.out.size h)⟩
      have hst := HC.out.strs k k (by omega) (by rw [roK_len]; omega) (by omega) (by unfold maxLen; omega)
      rw [List.take_of_length_le (by rw [roK_len]; omega)] at hst
      exact hst

end Go.Proofs.YtonooelffokfkaaGreatDoor

namespace Go.Proofs.YtonooelffokfkaaGreatDoor
open Go.RowKit Plain
set_option linter.unusedVariables false

set_option maxRecDepth 100000 in
set_option maxHeartbeats 8000000 in
theorem fixN_good (w : World) (f b k : Nat) (cnt : Nat → Int) (h : FixIn w f b cnt) (hq : ∀ j, j < 8 → 0 ≤ cnt j ∧ cnt j < 4611686018427387904) (cv lv : Value) (L : List ByteArray) (lost : List Int) (hL : StrsIn w cv L) (hz : ∀ i, i < L.length → (L.getD i noS).size ≤ maxLen) (hI : IntsIn w lv lost) (hlo : lost.length * 8 ≤ 140737488355328) (hk : L.length = k + 2) (hE : srE (k : Int) lost = 0) :
    Calls Tryz.prog 64 #[.pointer (some ⟨f, 0, none⟩), cv, lv] w fun e w' => ∃ v, e = .returned (.tuple #[v, .int .i64 (fxE L lost)]) ∧ StrsIn w' v (fxL L lost) ∧ FixIn w' f b (fxC cnt L lost) ∧ Sp [f, b] w w' ∧ (∀ q, v.ownBlock = some q → w.heap.size ≤ q) := by
  obtain ⟨hk1, hk2, hin, hl2⟩ := sr_zero hE
  have hdk : (L.length : Int) - 2 = (k : Int) := by omega
  have hall : ∀ x, x ∈ lost → 0 ≤ x ∧ x < ((k + 2 : Nat) : Int) := fun x hx => by have := in_all hin x hx; omega
  have hdst := dst_gn (k + 2) lost hall
  have hgg : gnL L lost = gn (k + 2) lost := by unfold gnL; rw [hk]
  obtain ⟨g, hg'⟩ : ∃ g, g = gn (k + 2) lost := ⟨_, rfl⟩
  have hgl : g.length ≤ 2 := by rw [hdst, List.length_map, ← hg'] at hl2; exact hl2
  have hgr : g.Pairwise (fun x y => x < y) := by rw [hg']; exact gn_lt _ _
  have hgx : ∀ x, x ∈ g → x < k + 2 := fun x hx => by rw [hg'] at hx; exact ((gn_mem _ _ x).1 hx).1
  have hkd : srK (k : Int) lost = (kdN k g : Nat) := by
    unfold srK; rw [if_pos hE, hdst, ← hg']; exact kd_is k g hgl hgr hgx
  have hS := sort_any (k : Int) lv lost hlo w hI
  rw [hkd, hE] at hS
  have hfx : fxE L lost = fitE (keptL L (k + 2) g) := by rw [fx_un (by rw [hdk]; exact hE), hk, hgg, hg']
  have hln : lnS L g = ((keptL L (k + 2) g).getD 0 noS).size := by unfold lnS; rw [hk]
  have hfl : fitE (keptL L (k + 2) g) = 0 → fxL L lost = fixZ (lnS L g) k (blkL5 (lnS L g) L g) g ∧ (∀ c, fxC c L lost = upL5 c (kdN k g)) ∧ Sz (lnS L g) (blkL5 (lnS L g) L g) ∧ lnS L g ≤ 65536 := fun h0 => by
    refine ⟨by unfold fxL; rw [hfx, if_pos h0, hgg, ← hg', hk]; rfl, fun c => by unfold fxC; rw [hfx, if_pos h0, hgg, ← hg', hk]; rfl, blk_sz (by rw [hk]; exact h0), ln_le hgl (by omega) (by rw [hk]; exact h0)⟩
  have hfn : fitE (keptL L (k + 2) g) ≠ 0 → fxL L lost = [] ∧ ∀ c, fxC c L lost = c := fun h0 => ⟨by unfold fxL; rw [hfx, if_neg h0], fun c => by unfold fxC; rw [hfx, if_neg h0]⟩
  rw [hfx]
  have hfr := fit_range (keptL L (k + 2) g)
  have hdist := fun (w' : World) (q : Kp w w') => distinct_any lv lost hlo w' (hI.kept q)
  rw [hdst, ← hg'] at hdist
  have hclone := fun (w' : World) (q : Kp w w') => clone_any (hL.kept q) (by omega) (by omega)
  rw [hk] at hclone
  obtain ⟨a, cap, rfl, h1, h2⟩ := hL.slice
  rw [hk] at h1 hclone ⊢
  unfold maxLen at h2
  obtain ⟨E, hE'⟩ : ∃ E, E = fitE (keptL L (k + 2) g) := ⟨_, rfl⟩
  rw [← hE'] at hfl hfn hfr ⊢
  have HB : Hid (∀ {w' : World} {R C cap : Nat} {gv : Value} (h : RowInL5 w' R f b C k cap gv L cnt) (B : Nat) (hB : C < B ∧ B ≤ w'.heap.size) (hg : IntsAt w' B gv (g.map (fun i : Nat => (i : Int)))), Calls Tryz.prog 114 #[.pointer (some ⟨R, 0, none⟩)] w' fun e w'' => e = .returned (.int .i64 E) ∧ (E = 0 → RowInL5 w'' R f b C k cap gv (blkL5 (lnS L g) L g) cnt) ∧ Sp [C] w' w'') := fun {w'} {R} {C} {cap} {gv} h B hB hg => by
    have H := blank_anyL5 h (by omega) (by omega) hz B hB g hg hgl hgx
    rw [← hE', ← hln] at H
    exact H
  have HRS : Hid (∀ {w' : World} {R C cap : Nat} {gv : Value} (h : RowInL5 w' R f b C k cap gv (blkL5 (lnS L g) L g) cnt) (B : Nat) (hB : C < B ∧ b < B) (hg : IntsAt w' B gv (g.map (fun i : Nat => (i : Int)))), E = 0 → Calls Tryz.prog 115 #[.pointer (some ⟨R, 0, none⟩), .int .i64 ((kdN k g : Nat) : Int)] w' fun e w'' => e = .returned (.tuple #[]) ∧ RowInL5 w'' R f b C k cap gv (fixZ (lnS L g) k (blkL5 (lnS L g) L g) g) (upL5 cnt (kdN k g)) ∧ Sp [C, b, f] w' w'') := fun {w'} {R} {C} {cap} {gv} h B hB hg h0 =>
    restore_all h (by omega) (by omega) (hfl h0).2.2.2 (hfl h0).2.2.1 hq B hB g hg hgl hgr hgx
  have HL : Hid (E = 0 → fxL L lost = fixZ (lnS L g) k (blkL5 (lnS L g) L g) g ∧ (∀ c, fxC c L lost = upL5 c (kdN k g))) := fun h0 => ⟨(hfl h0).1, (hfl h0).2.1⟩
  have HN : Hid (E ≠ 0 → fxL L lost = [] ∧ ∀ c, fxC c L lost = c) := hfn
  have HF : Hid (FixIn w f b cnt) := h
  have HLK : Hid (L.length = k + 2) := hk
  have hk1' : 2 ≤ k := by omega
  have hk2' : k ≤ 30 := by omega
  obtain ⟨kd, hkd'⟩ : ∃ kd, kd = kdN k g := ⟨_, rfl⟩
  rw [← hkd'] at hS HRS HL
  have hkd8 : kd < 8 := by rw [hkd']; exact kdN_lt k g
  clear hfl hfn hfx hln hgg hg' hdst hall hin hl2 hE hdk hgl hgr hgx hkd hL hI hE' h hq hz hk hkd' hk1 hk2
  go_enter Tryz.func64, Tryz.ntmps64
  go_wp2_with fail
  refine hS.mono ?_; rintro e w1 ⟨rfl, k1⟩
  clear hS
  go_wp2_with fail
  refine (hclone w1 k1).mono ?_; rintro e w2 ⟨C, cp, rfl, c1, c2, hC, hcol, k2⟩
  clear hclone
  go_wp2_with fail
  refine (hdist w2 (k1.trans k2)).mono ?_; rintro e w3 ⟨gv, rfl, hg, k3⟩
  clear hdist
  have hcol3 := hcol.sp (k3.sp []) (by simp)
  have hF3 := HF.out.kp ((k1.trans k2).trans k3)
  have hn4 : C ≠ f := by have := HF.out.hf; have := k1.size; omega
  have hn5 : C ≠ b := by have := HF.out.hb; have := k1.size; omega
  have hb2 : b < w2.heap.size := by have := HF.out.hb; have := k1.size; have := k2.size; omega
  have hf2 : f < w2.heap.size := by have := HF.out.hf; have := k1.size; have := k2.size; omega
  have hC2 := hcol.hC
  have hrow := row_new (gv := gv) hF3 hcol3 HLK.out c1 c2 hn4 hn5 225
  have hgs : ∃ a cap, gv = .slice a g.length cap := by have := hg.slice; rwa [List.length_map] at this
  have kal : Kp w3 (w3.alloc (.cells #[.pointer (some ⟨f, 0, none⟩), .int .i64 (k : Int), .slice (some ⟨C, 0, none⟩) (k + 2) cp, gv] 225)) := (Kp.refl w3).alloc _
  have hg4 := hg.kept kal
  have HB1 := HB.out hrow w2.heap.size ⟨hC2, by have := k3.size; have := kal.size; omega⟩ hg4
  have K4 := ((k1.trans k2).trans k3).trans kal
  have hCw : w.heap.size ≤ C := by have := k1.size; omega
  have HC : Hid (w.heap.size ≤ C) := hCw
  have HF4 : Hid (FixIn _ f b cnt) := HF.out.kp K4
  clear HB HF hcol hcol3 hF3 hrow hg k1 k2 k3 kal hC hCw
  obtain ⟨ga, gc, rfl⟩ := hgs
  go_wp2_with fail
  refine HB1.mono ?_; rintro e w5 ⟨rfl, hr5, s5⟩
  have HG5 := hg4.sp s5 (by simpa using hC2)
  have K5 : Sp [C, b, f] w w5 := (K4.sp [C, b, f]).trans (s5.mono (by simp))
  have HF5 : Hid (FixIn w5 f b cnt) := HF4.out.sp s5 (by simpa using fun e => hn4 e.symm) (by simpa using fun e => hn5 e.symm)
  clear HB1 hg4 s5 K4 HF4 hn4 hn5
  by_cases h0 : E = 0
  · have hr := hr5 h0
    have HR1 := HRS.out hr w2.heap.size ⟨hC2, hb2⟩ HG5 h0
    obtain ⟨l1, l2⟩ := HL.out h0
    subst h0
    have HL1 : Hid (fxL L lost = fixZ (lnS L g) k (blkL5 (lnS L g) L g) g ∧ fxC cnt L lost = upL5 cnt kd) := ⟨l1, l2 cnt⟩
    clear HRS hr5 HG5 l1 l2 HN HL hr hfr
    go_wp2_with fail
    refine HR1.mono ?_; rintro e w6 ⟨rfl, h6, s6⟩
    have e6 := h6.r2
    have H6 : Hid (RowInL5 w6 w3.heap.size f b C k cp (.slice ga g.length gc) (fixZ (lnS L g) k (blkL5 (lnS L g) L g) g) (upL5 cnt kd)) := h6
    have HS6 : Hid (Sp [C, b, f] w w6) := K5.trans s6
    clear h6 s6 K5 HR1
    go_wp2
    go_ret2
    refine ⟨.slice (some ⟨C, 0, none⟩) (k + 2) cp, rfl, ?_, ?_, ?_, fun q hq => by have h9 : C = q := Option.some.inj hq
                                                                                   rw [← h9]; exact HC.out⟩
    · rw [HL1.out.1]
      have H := H6.out.cols.strs (k + 2) cp (by omega) (by rw [H6.out.len]; omega) c1 c2
      rwa [← H6.out.len, List.take_length, H6.out.len] at H
    · rw [HL1.out.2]; exact H6.out.fix
    · exact ⟨HS6.out.os, HS6.out.tape, HS6.out.output, HS6.out.size, fun i hi hn => HS6.out.block i hi (by have := HC.out; simp at hn ⊢; omega)⟩
  · have hEn : (E == 0) = false := by rw [beq_eq_false_iff_ne]; exact h0
    obtain ⟨n1, n2⟩ := HN.out h0
    have HN1 : Hid (fxL L lost = [] ∧ fxC cnt L lost = cnt) := ⟨n1, n2 cnt⟩
    have HS6 : Hid (Sp [C, b, f] w w5) := K5
    clear n1 n2 HRS HL HN HG5 hr5 K5
    go_wp2
    go_ret2
    refine ⟨.slice none 0 0, rfl, ?_, ?_, ?_, fun q hq => by cases hq⟩
    · rw [HN1.out.1]; exact .empty none 0 (by unfold maxLen; omega)
    · rw [HN1.out.2]; exact HF5.out
    · exact ⟨HS6.out.os, HS6.out.tape, HS6.out.output, HS6.out.size, fun i hi hn => HS6.out.block i hi (by have := HC.out; simp at hn ⊢; omega)⟩
/-- Fix, whatever it is handed. -/
theorem fixN_any (w : World) (f b : Nat) (cnt : Nat → Int) (h : FixIn w f b cnt) (hq : ∀ j, j < 8 → 0 ≤ cnt j ∧ cnt j < 4611686018427387904) (cv lv : Value) (L : List ByteArray) (lost : List Int) (hL : StrsIn w cv L) (hz : ∀ i, i < L.length → (L.getD i noS).size ≤ maxLen) (hI : IntsIn w lv lost) (hlo : lost.length * 8 ≤ 140737488355328) :
    Calls Tryz.prog 64 #[.pointer (some ⟨f, 0, none⟩), cv, lv] w fun e w' => ∃ v, e = .returned (.tuple #[v, .int .i64 (fxE L lost)]) ∧ StrsIn w' v (fxL L lost) ∧ FixIn w' f b (fxC cnt L lost) ∧ Sp [f, b] w w' ∧ (∀ q, v.ownBlock = some q → w.heap.size ≤ q) := by
  by_cases hE : srE ((L.length : Int) - 2) lost = 0
  · obtain ⟨hk1, hk2, _, _⟩ := sr_zero hE
    obtain ⟨k, hk⟩ : ∃ k, L.length = k + 2 := ⟨L.length - 2, by omega⟩
    exact fixN_good w f b k cnt h hq cv lv L lost hL hz hI hlo hk (by rw [hk] at hE; rwa [show ((k + 2 : Nat) : Int) - 2 = (k : Int) by omega] at hE)
  · obtain ⟨e1, e2, e3⟩ := fx_not hE
    refine (fix_bad w f cv lv L lost hL hI hlo hE).mono ?_
    rintro e w' ⟨rfl, k⟩
    rw [e1, e2, e3]
    exact ⟨_, rfl, .empty none 0 (by unfold maxLen; omega), h.kp k, k.sp [f, b], fun q hq => by cases hq⟩

end Go.Proofs.YtonooelffokfkaaGreatDoor

namespace Go.Proofs.YtonooelffokfkaaGreatDoor
open Go.RowKit Plain
set_option linter.unusedVariables false

/-! ### what Load answers -/
def ldG (B : BS) (L : LB) (t : Int) : List Int := loL L (ddL B) t
def ldR (B : BS) (L : LB) (t : Int) : List ByteArray := roK B L.n t (ldG B L t) L.n.toNat L.n.toNat
def ldE (B : BS) (L : LB) (t : Int) : Int := if lsE L t = 0 then (if srE (L.n - 2) (ldG B L t) = 0 then (if roE B L.n t (ldG B L t) L.n.toNat = 0 then fxE (ldR B L t) (ldG B L t) else roE B L.n t (ldG B L t) L.n.toNat) else srE (L.n - 2) (ldG B L t)) else lsE L t
def ldC (B : BS) (L : LB) (t : Int) : List ByteArray := if ldE B L t = 0 then fxL (ldR B L t) (ldG B L t) else []
def ldL (B : BS) (L : LB) (t : Int) : List Int := if ldE B L t = 0 then ldG B L t else []
def ldK (B : BS) (L : LB) (t : Int) : Int := if ldE B L t = 0 then srK (L.n - 2) (ldG B L t) else 0
def ldT (B : BS) (L : LB) (t : Int) : Int := if ldE B L t = 0 then t else 0
def ldN (B : BS) (L : LB) (t : Int) (cnt : Nat → Int) : Nat → Int := if ldE B L t = 0 then fxC cnt (ldR B L t) (ldG B L t) else cnt
theorem ld_no {B : BS} {L : LB} {t : Int} (h : ldE B L t ≠ 0) : ldC B L t = [] ∧ ldL B L t = [] ∧ ldK B L t = 0 ∧ ldT B L t = 0 ∧ ∀ cnt, ldN B L t cnt = cnt := by
  exact ⟨if_neg h, if_neg h, if_neg h, if_neg h, fun _ => if_neg h⟩
theorem ld_yes {B : BS} {L : LB} {t : Int} (h : ldE B L t = 0) : ldC B L t = fxL (ldR B L t) (ldG B L t) ∧ ldL B L t = ldG B L t ∧ ldK B L t = srK (L.n - 2) (ldG B L t) ∧ ldT B L t = t ∧ ∀ cnt, ldN B L t cnt = fxC cnt (ldR B L t) (ldG B L t) := by
  exact ⟨if_pos h, if_pos h, if_pos h, if_pos h, fun _ => if_pos h⟩
theorem ld_1 {B : BS} {L : LB} {t : Int} (h : lsE L t ≠ 0) : ldE B L t = lsE L t := if_neg h
theorem ld_2 {B : BS} {L : LB} {t : Int} (h : lsE L t = 0) (h2 : srE (L.n - 2) (ldG B L t) ≠ 0) : ldE B L t = srE (L.n - 2) (ldG B L t) := (if_pos h).trans (if_neg h2)
theorem ld_3 {B : BS} {L : LB} {t : Int} (h : lsE L t = 0) (h2 : srE (L.n - 2) (ldG B L t) = 0) (h3 : roE B L.n t (ldG B L t) L.n.toNat ≠ 0) : ldE B L t = roE B L.n t (ldG B L t) L.n.toNat := (if_pos h).trans ((if_pos h2).trans (if_neg h3))
theorem ld_4 {B : BS} {L : LB} {t : Int} (h : lsE L t = 0) (h2 : srE (L.n - 2) (ldG B L t) = 0) (h3 : roE B L.n t (ldG B L t) L.n.toNat = 0) : ldE B L t = fxE (ldR B L t) (ldG B L t) := (if_pos h).trans ((if_pos h2).trans (if_pos h3))
theorem Sm.ld {B B' : BS} (h : Sm B B') (L : LB) (t : Int) : ldG B' L t = ldG B L t := by unfold ldG; rw [h.dd]
theorem Sm.roE {B B' : BS} (h : Sm B B') (n t : Int) (G : List Int) : ∀ k, roE B' n t G k = roE B n t G k
  | 0 => rfl
  | k + 1 => by
    have ih := Sm.roE h n t G k
    show (if Go.Proofs.YtonooelffokfkaaGreatDoor.roE B' n t G k = 0 then _ else _) = (if Go.Proofs.YtonooelffokfkaaGreatDoor.roE B n t G k = 0 then _ else _)
    rw [ih, h.rdE]
theorem Sm.roK {B B' : BS} (h : Sm B B') (n t : Int) (G : List Int) (N k : Nat) : roK B' n t G N k = roK B n t G N k := by
  unfold Go.Proofs.YtonooelffokfkaaGreatDoor.roK
  refine List.map_congr_left fun c _ => ?_
  unfold roC; rw [h.rdT]
theorem Sm.ldR {B B' : BS} (h : Sm B B') (L : LB) (t : Int) : ldR B' L t = ldR B L t := by unfold Go.Proofs.YtonooelffokfkaaGreatDoor.ldR; rw [h.ld, h.roK]
theorem Sm.ldE {B B' : BS} (h : Sm B B') (L : LB) (t : Int) : ldE B' L t = ldE B L t := by unfold Go.Proofs.YtonooelffokfkaaGreatDoor.ldE; rw [h.ld, h.roE, h.ldR]
theorem rdT_size {w0 w : World} {b : Nat} {T : List Nat} {B : BS} (h : Bw w0 w b T B) (i k : Int) : (rdT B i k).size ≤ 64 := by
  obtain ⟨m, X, F, _, h1⟩ := h
  unfold rdT
  split
  · rename_i hs
    have hf := (stE_ok hs).1
    obtain ⟨P, _, p2, _⟩ := h1.at hf
    obtain ⟨bn, bl, rv, _, hm, _⟩ := p2
    unfold rdS
    split
    · rename_i hc
      obtain ⟨_, c2, c3⟩ := rc_ok hc
      have hlt : k.toNat < (bm B i).now.length := by rw [hm.fine.nn]; omega
      rw [hm.fine.bn _ (mem_of_at _ _ hlt)]
      exact Nat.le_refl _
    · simp
  · simp

/-! ### a row in memory -/
structure Rc (w : World) (b : Nat) (v0 v1 v2 v3 : Value) : Prop where
  c0 : w.cell? ⟨b, 0, none⟩ = some v0
  c1 : w.cell? ⟨b, 1, none⟩ = some v1
  c2 : w.cell? ⟨b, 2, none⟩ = some v2
  c3 : w.cell? ⟨b, 3, none⟩ = some v3
  z : ∀ o, w.frozen? ⟨b, o, none⟩ = false
theorem Rc.lt {w : World} {b : Nat} {v0 v1 v2 v3 : Value} (h : Rc w b v0 v1 v2 v3) : b < w.heap.size := World.block_lt_of_cell? _ _ h.c0
theorem Rc.sp {w w' : World} {b : Nat} {v0 v1 v2 v3 : Value} {T : List Nat} (h : Rc w b v0 v1 v2 v3) (k : Sp T w w') (hb : b ∉ T) : Rc w' b v0 v1 v2 v3 :=
  ⟨k.held h.c0 hb, k.held h.c1 hb, k.held h.c2 hb, k.held h.c3 hb, fun o => (k.frozen h.lt hb o).trans (h.z o)⟩
theorem Rc.kept {w w' : World} {b : Nat} {v0 v1 v2 v3 : Value} (h : Rc w b v0 v1 v2 v3) (k : Kp w w') : Rc w' b v0 v1 v2 v3 := h.sp (k.sp []) (by simp)
theorem Rc.new (w : World) (v0 v1 v2 v3 : Value) (t : TypeId) : Rc (w.alloc (.cells #[v0, v1, v2, v3] t)) w.heap.size v0 v1 v2 v3 := ⟨by simp, by simp, by simp, by simp, fun o => by simp⟩
def ovR (w : World) (b : Nat) (v0 v1 v2 v3 : Value) : World := (((w.setCell ⟨b, 0, none⟩ v0).setCell ⟨b, 1, none⟩ v1).setCell ⟨b, 2, none⟩ v2).setCell ⟨b, 3, none⟩ v3
theorem ovR_sp (w : World) (b : Nat) (v0 v1 v2 v3 : Value) : Sp [b] w (ovR w b v0 v1 v2 v3) := ((((Sp.refl [b] w).set b 0 (by simp) _).set b 1 (by simp) _).set b 2 (by simp) _).set b 3 (by simp) _
theorem Rc.over {w : World} {b : Nat} {u0 u1 u2 u3 : Value} (h : Rc w b u0 u1 u2 u3) (v0 v1 v2 v3 : Value) : Rc (ovR w b v0 v1 v2 v3) b v0 v1 v2 v3 := by
  unfold ovR
  refine ⟨?_, ?_, ?_, ?_, fun o => ?_⟩
  · rw [cell_off _ _ _ _ _ (by omega), cell_off _ _ _ _ _ (by omega), cell_off _ _ _ _ _ (by omega)]
    exact World.cell?_setCell_same _ _ _ h.c0
  · rw [cell_off _ _ _ _ _ (by omega), cell_off _ _ _ _ _ (by omega)]
    exact World.cell?_setCell_same _ _ _ ((cell_off _ _ _ _ _ (by omega)).trans h.c1)
  · rw [cell_off _ _ _ _ _ (by omega)]
    exact World.cell?_setCell_same _ _ _ ((cell_off _ _ _ _ _ (by omega)).trans ((cell_off _ _ _ _ _ (by omega)).trans h.c2))
  · exact World.cell?_setCell_same _ _ _ ((cell_off _ _ _ _ _ (by omega)).trans ((cell_off _ _ _ _ _ (by omega)).trans ((cell_off _ _ _ _ _ (by omega)).trans h.c3)))
  · rw [World.frozen?_setCell, World.frozen?_setCell, World.frozen?_setCell, World.frozen?_setCell]; exact h.z o
theorem ovR_far (w : World) (b c o : Nat) (v0 v1 v2 v3 : Value) (h : ¬ (c = b ∧ o < 4)) : (ovR w b v0 v1 v2 v3).cell? ⟨c, o, none⟩ = w.cell? ⟨c, o, none⟩ := by
  unfold ovR
  have key : ∀ (W : World) (j : Nat) (v : Value), j < 4 → (W.setCell ⟨b, j, none⟩ v).cell? ⟨c, o, none⟩ = W.cell? ⟨c, o, none⟩ := fun W j v hj => World.cell?_setCell_other W _ _ v (fun e => by
    injection e with e1 e2
    exact h ⟨e1.symm, by omega⟩)
  rw [key _ 3 _ (by omega), key _ 2 _ (by omega), key _ 1 _ (by omega), key _ 0 _ (by omega)]
/-- texts stay, where a row without texts is written. -/
theorem StrsIn.over {w : World} {v : Value} {l : List ByteArray} (h : StrsIn w v l) {b : Nat} {i0 i3 : Int} {a1 a2 : Option Addr} {m1 m2 p1 p2 : Nat} (hR : Rc w b (.int .i64 i0) (.slice a1 m1 p1) (.slice a2 m2 p2) (.int .i64 i3)) (v0 v1 v2 v3 : Value) : StrsIn (ovR w b v0 v1 v2 v3) v l := by
  cases h with
  | empty a cap h => exact .empty a cap h
  | some c off cap l h0 h1 h2 hc =>
    refine .some c off cap l h0 h1 h2 (fun i hi => ?_)
    rw [ovR_far]
    · exact hc i hi
    · rintro ⟨rfl, ho⟩
      have hci := hc i hi
      have : off + i = 0 ∨ off + i = 1 ∨ off + i = 2 ∨ off + i = 3 := by omega
      rcases this with e | e | e | e <;> rw [e] at hci
      · rw [hR.c0] at hci; cases hci
      · rw [hR.c1] at hci; cases hci
      · rw [hR.c2] at hci; cases hci
      · rw [hR.c3] at hci; cases hci
theorem size_row : (Tryz.prog.info? 70).map (·.size) = some 4 := by kernel_rfl
theorem Rc.at {w : World} {b : Nat} {v0 v1 v2 v3 : Value} (h : Rc w b v0 v1 v2 v3) (j : Nat) (v : Value) (hv : [v0, v1, v2, v3][j]? = some v) : w.cell? ⟨b, j, none⟩ = some v := by
  match j, hv with
  | 0, hv => simp at hv; rw [← hv]; exact h.c0
  | 1, hv => simp at hv; rw [← hv]; exact h.c1
  | 2, hv => simp at hv; rw [← hv]; exact h.c2
  | 3, hv => simp at hv; rw [← hv]; exact h.c3
theorem Rc.load {w : World} {b : Nat} {v0 v1 v2 v3 : Value} (h : Rc w b v0 v1 v2 v3) : (loadVar 70 ⟨b, 0, none⟩).run Tryz.prog w = .ok (.agg #[v0, v1, v2, v3]) w :=
  load_cells [v0, v1, v2, v3] h.at 70 _ Tryz.underlying70 size_row
theorem results_row2 {fn : Func} {t u : Tmp} (h : fn.results = #[.cell t 70, .tmp u]) (tmps : Array Value) (w : World) (b : Nat) {v0 v1 v2 v3 x : Value} (hp : tmps.getD t undef = .pointer (some ⟨b, 0, none⟩)) (hx : tmps.getD u undef = x) (h0 : Rc w b v0 v1 v2 v3) :
    (results fn tmps).run Tryz.prog w = .ok (.tuple #[.agg #[v0, v1, v2, v3], x]) w := by
  rw [results_cell_tmp h]
  rw [hp, hx]
  simp [asAddr, h0.load]

/-! ### the reader behind it -/
theorem Rz.sp {w0 W w' : World} {r b f g : Nat} {T : List Nat} {B : BS} {cnt : Nat → Int} (h : Rz w0 W w' r b f g T B cnt) : Sp (f :: g :: T) W w' := by
  obtain ⟨T', h1, h2, h3⟩ := h
  exact h2
theorem Rz.trans2 {w0 W w w' : World} {r b f g : Nat} {T : List Nat} {B B' : BS} {cnt cnt' : Nat → Int} (h : Rz w0 W w r b f g T B cnt) (x : RdX w0 w r b f g T B cnt) (k : Rz w0 w w' r b f g T B' cnt') : Rz w0 W w' r b f g T B' cnt' := by
  obtain ⟨T', h1, h2, h3⟩ := h
  obtain ⟨T2, q1, q2, q3⟩ := k
  exact ⟨T2, q1, h2.trans q2, fun t ht => (q3 t ht).imp id (fun h => Nat.le_trans h2.size h)⟩
theorem RdX.fixed {w0 w w' : World} {r b f g : Nat} {T : List Nat} {B : BS} {cnt cnt' : Nat → Int} (h : RdX w0 w r b f g T B cnt) (k : FixIn w' f g cnt') (s : Sp [f, g] w w') : Rz w0 w w' r b f g T B cnt' := by
  have hr : r ∉ [f, g] := by simp [h.rf, h.rg]
  refine ⟨T, ⟨Nat.lt_of_lt_of_le h.hr s.size, s.held h.c0 hr, s.held h.c1 hr, OL.bw.sp h.bay s (fun t ht hm => ?_), k, h.nr, h.nf, h.ng, h.rf, h.rg, h.lr, h.lf, h.lg⟩, s.mono (fun t ht => ?_), Nw.refl _ _⟩
  · simp only [List.mem_cons, List.not_mem_nil, or_false] at hm
    rcases hm with rfl | rfl
    · exact h.nf ht
    · exact h.ng ht
  · simp only [List.mem_cons, List.not_mem_nil, or_false] at ht
    rcases ht with rfl | rfl <;> simp
/-- the same, and the list of columns is apart from it. -/
def RzN (w0 W w' : World) (r b f g : Nat) (T : List Nat) (B : BS) (cnt : Nat → Int) (cv : Value) : Prop := ∃ T', RdX w0 w' r b f g T' B cnt ∧ Sp (f :: g :: T) W w' ∧ Nw W T T' ∧ ∀ q, cv.ownBlock = some q → W.heap.size ≤ q ∧ q ∉ T'
theorem IntsAt.far {w : World} {B : Nat} {v : Value} {l : List Int} (h : IntsAt w B v l) (hl : 0 < l.length) : ∀ q, v.ownBlock = Option.some q → B ≤ q ∧ q < w.heap.size := by
  cases h with
  | empty a cap h => cases hl
  | some g cap l h0 h1 h2 hB hc =>
    intro q hq
    have : g = q := by simpa [Value.ownBlock] using hq
    subst this
    exact ⟨hB, World.block_lt_of_cell? _ _ (hc 0 h0)⟩
def RzM (w0 W w' : World) (r b f g : Nat) (T : List Nat) (B : BS) (cnt : Nat → Int) (cv gv : Value) (l : List Int) : Prop := ∃ T', RdX w0 w' r b f g T' B cnt ∧ Sp (f :: g :: T) W w' ∧ Nw W T T' ∧ (∀ q, cv.ownBlock = some q → W.heap.size ≤ q ∧ q ∉ T') ∧ (0 < l.length → ∀ q, gv.ownBlock = some q → W.heap.size ≤ q ∧ q ∉ T')
theorem RzM.rzN {w0 W w' : World} {r b f g : Nat} {T : List Nat} {B : BS} {cnt : Nat → Int} {cv gv : Value} {l : List Int} (h : RzM w0 W w' r b f g T B cnt cv gv l) : RzN w0 W w' r b f g T B cnt cv := by
  obtain ⟨T', a, b, c, d, _⟩ := h
  exact ⟨T', a, b, c, d⟩
theorem RzN.rzM {w0 W w' : World} {r b f g : Nat} {T : List Nat} {B : BS} {cnt : Nat → Int} {cv gv : Value} {l : List Int} (h : RzN w0 W w' r b f g T B cnt cv) (hl : l = []) : RzM w0 W w' r b f g T B cnt cv gv l := by
  obtain ⟨T', a, b, c, d⟩ := h
  exact ⟨T', a, b, c, d, fun h0 => by rw [hl] at h0; cases h0⟩
theorem RzN.rz {w0 W w' : World} {r b f g : Nat} {T : List Nat} {B : BS} {cnt : Nat → Int} {cv : Value} (h : RzN w0 W w' r b f g T B cnt cv) : Rz w0 W w' r b f g T B cnt := by
  obtain ⟨T', h1, h2, h3, _⟩ := h
  exact ⟨T', h1, h2, h3⟩
theorem RdX.fixedX {w0 w w' : World} {r b f g : Nat} {T : List Nat} {B : BS} {cnt cnt' : Nat → Int} (h : RdX w0 w r b f g T B cnt) (k : FixIn w' f g cnt') (s : Sp [f, g] w w') : RdX w0 w' r b f g T B cnt' := by
  have hr : r ∉ [f, g] := by simp [h.rf, h.rg]
  refine ⟨Nat.lt_of_lt_of_le h.hr s.size, s.held h.c0 hr, s.held h.c1 hr, OL.bw.sp h.bay s (fun t ht hm => ?_), k, h.nr, h.nf, h.ng, h.rf, h.rg, h.lr, h.lf, h.lg⟩
  simp only [List.mem_cons, List.not_mem_nil, or_false] at hm
  rcases hm with rfl | rfl
  · exact h.nf ht
  · exact h.ng ht
theorem RzN.fin {w0 w W w1 w2 : World} {r b f g c : Nat} {T T' : List Nat} {B : BS} {cnt : Nat → Int} {cv : Value} (kW : Kp w W) (q1 : RdX w0 w1 r b f g T' B cnt) (q2 : Sp (f :: g :: T) W w1) (q3 : Nw W T T') (s : Sp [c] w1 w2) (h1 : w.heap.size ≤ c) (h2 : c < W.heap.size) (hn : c ∉ f :: g :: T) (hr : c ≠ r) (hv : ∀ q, cv.ownBlock = some q → w.heap.size ≤ q ∧ q ∉ T') : RzN w0 w w2 r b f g T B cnt cv := by
  have hn' : c ∉ f :: g :: T' := nw_out (nw_fg q3) h2 hn
  refine ⟨T', q1.sp s (fun t ht hm => ?_), Sp.drop (c := c) kW ((q2.mono (fun t ht => List.mem_cons_of_mem _ ht)).trans (s.mono (fun t ht => by rw [List.mem_singleton.1 ht]; exact List.mem_cons_self))) h1, fun t ht => (q3 t ht).imp id (fun h => Nat.le_trans kW.size h), hv⟩
  have e : t = c := List.mem_singleton.1 hm
  subst e
  rcases List.mem_cons.1 ht with rfl | ht
  · exact hr rfl
  · exact hn' ht
theorem RzM.fin {w0 w W w1 w2 : World} {r b f g c : Nat} {T T' : List Nat} {B : BS} {cnt : Nat → Int} {cv gv : Value} {l : List Int} (kW : Kp w W) (q1 : RdX w0 w1 r b f g T' B cnt) (q2 : Sp (f :: g :: T) W w1) (q3 : Nw W T T') (s : Sp [c] w1 w2) (h1 : w.heap.size ≤ c) (h2 : c < W.heap.size) (hn : c ∉ f :: g :: T) (hr : c ≠ r) (hv : ∀ q, cv.ownBlock = some q → w.heap.size ≤ q ∧ q ∉ T') (hu : 0 < l.length → ∀ q, gv.ownBlock = some q → w.heap.size ≤ q ∧ q ∉ T') : RzM w0 w w2 r b f g T B cnt cv gv l := by
  have hn' : c ∉ f :: g :: T' := nw_out (nw_fg q3) h2 hn
  refine ⟨T', q1.sp s (fun t ht hm => ?_), Sp.drop (c := c) kW ((q2.mono (fun t ht => List.mem_cons_of_mem _ ht)).trans (s.mono (fun t ht => by rw [List.mem_singleton.1 ht]; exact List.mem_cons_self))) h1, fun t ht => (q3 t ht).imp id (fun h => Nat.le_trans kW.size h), hv, hu⟩
  have e : t = c := List.mem_singleton.1 hm
  subst e
  rcases List.mem_cons.1 ht with rfl | ht
  · exact hr rfl
  · exact hn' ht
theorem Rz.finN {w0 w W w1 w2 : World} {r b f g c : Nat} {T : List Nat} {B : BS} {cnt : Nat → Int} {cv : Value} (kW : Kp w W) (h : Rz w0 W w1 r b f g T B cnt) (s : Sp [c] w1 w2) (h1 : w.heap.size ≤ c) (h2 : c < W.heap.size) (hn : c ∉ f :: g :: T) (hr : c ≠ r) (hv : cv.ownBlock = none) : RzN w0 w w2 r b f g T B cnt cv := by
  obtain ⟨T', q1, q2, q3⟩ := h
  exact RzN.fin kW q1 q2 q3 s h1 h2 hn hr (fun q hq => by rw [hv] at hq; cases hq)
theorem Rz.fin {w0 w W w1 w2 : World} {r b f g c : Nat} {T : List Nat} {B : BS} {cnt : Nat → Int} (kW : Kp w W) (h : Rz w0 W w1 r b f g T B cnt) (s : Sp [c] w1 w2) (h1 : w.heap.size ≤ c) (h2 : c < W.heap.size) (hn : c ∉ f :: g :: T) (hr : c ≠ r) : Rz w0 w w2 r b f g T B cnt := by
  obtain ⟨T', q1, q2, q3⟩ := h
  have hn' : c ∉ f :: g :: T' := nw_out (nw_fg q3) h2 hn
  refine ⟨T', q1.sp s (fun t ht hm => ?_), Sp.drop (c := c) kW ((q2.mono (fun t ht => List.mem_cons_of_mem _ ht)).trans (s.mono (fun t ht => by rw [List.mem_singleton.1 ht]; exact List.mem_cons_self))) h1, fun t ht => (q3 t ht).imp id (fun h => Nat.le_trans kW.size h)⟩
  have e : t = c := List.mem_singleton.1 hm
  subst e
  rcases List.mem_cons.1 ht with rfl | ht
  · exact hr rfl
  · exact hn' ht

set_option maxRecDepth 100000 in
set_option maxHeartbeats 2000000 in
theorem lddM_any {w0 w : World} {r b f g : Nat} {T : List Nat} {B : BS} {cnt : Nat → Int} (h : RdX w0 w r b f g T B cnt) (K : Kp w0 w) (hT : Tab w0) (hq : ∀ j, j < 8 → 0 ≤ cnt j ∧ cnt j < 4611686018427387904) (L : LB) (sv mv : Value) (t : Int) (h1 : ∀ w', Sp (f :: g :: T) w w' → Nl w' sv L.sts ∧ Nl w' mv L.mks) : Calls Tryz.prog 24 #[.pointer (some ⟨r, 0, none⟩), lV L.n L.s L.ep sv mv, .int .i64 t] w fun e w' => ∃ cv gv B', e = .returned (.tuple #[.agg #[.int .i64 (ldT B L t), cv, gv, .int .i64 (ldK B L t)], .int .i64 (ldE B L t)]) ∧ StrsIn w' cv (ldC B L t) ∧ IntsAt w' w.heap.size gv (ldL B L t) ∧ Sm B B' ∧ RzM w0 w w' r b f g T B' (ldN B L t cnt) cv gv (ldL B L t) := by
  have hG := fun w' (k : Kp w w') => gone_any (h.kp k) (K.trans k) hT L sv mv t (fun w'' k' => h1 w'' ((k.sp _).trans k'))
  have hD := fun w' => data_any L.n L.s w'
  have hS := fun d v l w' (hl : l.length * 8 ≤ 140737488355328) (hi : IntsIn w' v l) => sort_any d v l hl w' hi
  have hO := fun w' (k : Kp w0 w') (x : RdX w0 w' r b f g T B cnt) (N : Nat) (hN : L.n = N) (hgg : gg L.n L.s = true) (htt : 0 ≤ t ∧ t < L.s) gv G (hi : IntsIn w' gv G) => others_any x k N L.s L.ep sv mv t (by rw [← hN]; exact hgg) htt gv G hi
  have hX := fun w' (T' : List Nat) (B' : BS) (x : RdX w0 w' r b f g T' B' cnt) cv lv A l (a : StrsIn w' cv A) (b : ∀ i, i < A.length → (A.getD i noS).size ≤ maxLen) (c : IntsIn w' lv l) (d : l.length * 8 ≤ 140737488355328) => fixN_any w' f g cnt x.fx hq cv lv A l a b c d
  have HX := hid h
  have HK := hid K
  have hb1 : Hid (w.heap.size ≤ w.heap.size + 1) := Nat.le_succ _
  have hbn : Hid (w.heap.size + 1 ∉ f :: g :: T) := fun ht => by have := h.low _ ht; omega
  have hbr : Hid (w.heap.size + 1 ≠ r) := fun e => by have := h.hr; omega
  have HNw : Hid (∀ x, x ∈ f :: g :: T → x < w.heap.size) := h.low
  have HNe : Hid (∀ x, x ∈ f :: g :: T → w0.heap.size ≤ x) := h.new
  have HLn : Hid (∀ D, (loL L D t).length ≤ L.n.toNat) := fun D => by
    unfold loL
    split
    · exact loN_len _ _ _ _
    · exact Nat.zero_le _
  clear h K hT h1
  by_cases hz : lsE L t = 0
  case neg =>
    have HF : Hid (ldE B L t = lsE L t ∧ (ldC B L t = [] ∧ ldL B L t = []) ∧ ldK B L t = 0 ∧ ldT B L t = 0 ∧ ldN B L t cnt = cnt) := by
      have e := ld_1 (B := B) hz
      obtain ⟨a1, a2, a3, a4, a5⟩ := ld_no (B := B) (L := L) (t := t) (by rw [e]; exact hz)
      exact ⟨e, ⟨a1, a2⟩, a3, a4, a5 _⟩
    clear hD hS hO hX
    obtain ⟨n, s, ep, sts, mks⟩ := L
    simp only at *
    obtain ⟨E, eE⟩ : ∃ E, E = lsE ⟨n, s, ep, sts, mks⟩ t := ⟨_, rfl⟩
    rw [← eE] at hz hG HF
    clear eE
    unfold lV at hG ⊢
    go_enter Tryz.func24, Tryz.ntmps24
    go_wp2_with fail
    obtain ⟨W, hW⟩ : ∃ W, W = (w.alloc (.cells #[.int .i64 n, .int .i64 s, .int .i64 ep, sv, mv] 30)).alloc (.cells #[.int .i64 0, .slice none 0 0, .slice none 0 0, .int .i64 0] 70) := ⟨_, rfl⟩
    have kW : Hid (Kp w W) := by show Kp w W; rw [hW]; exact ((Kp.refl w).alloc _).alloc _
    have hb2 : Hid (w.heap.size + 1 < W.heap.size) := by show _ < W.heap.size; rw [hW]; simp
    have rc : Rc W (w.heap.size + 1) (.int .i64 0) (.slice none 0 0) (.slice none 0 0) (.int .i64 0) := by
      have := Rc.new (w.alloc (.cells #[.int .i64 n, .int .i64 s, .int .i64 ep, sv, mv] 30)) (.int .i64 0) (.slice none 0 0) (.slice none 0 0) (.int .i64 0) 70
      rw [← hW] at this
      rw [show (w.alloc (.cells #[.int .i64 n, .int .i64 s, .int .i64 ep, sv, mv] 30)).heap.size = w.heap.size + 1 by simp] at this
      exact this
    rw [← hW]
    clear hW
    refine (hG _ kW.out).mono ?_; rintro e w1 ⟨v, rfl, i1, x1, s1⟩
    have HRC : Hid (Rc w1 (w.heap.size + 1) (.int .i64 0) (.slice none 0 0) (.slice none 0 0) (.int .i64 0)) := rc.sp s1 (fun ht => hbn.out (by simp [ht]))
    have HZ : Hid (Rz w0 W w1 r b f g T B cnt) := ⟨T, x1, s1.mono (fun x hx => by simp [hx]), Nw.refl _ _⟩
    obtain ⟨c0, c1, c2, c3, z0⟩ := HRC.out
    clear hG i1 x1 s1 rc
    go_wp2
    refine bodyPost_ret (results_row2 rfl _ _ (w.heap.size + 1) rfl rfl (HRC.out.over (.int .i64 0) (.slice none 0 0) (.slice none 0 0) (.int .i64 0))) rfl ?_
    exact ⟨_, _, B, by rw [HF.out.1, HF.out.2.2.1, HF.out.2.2.2.1]; rfl, by rw [HF.out.2.1.1]; exact .empty none 0 (by unfold maxLen; omega), by rw [HF.out.2.1.2]; exact .empty none 0 (by unfold maxLen; omega), Sm.refl B, by rw [HF.out.2.2.2.2]; exact (Rz.finN kW.out HZ.out (ovR_sp _ _ _ _ _ _) hb1.out hb2.out hbn.out hbr.out rfl).rzM HF.out.2.1.2⟩
  obtain ⟨z1, z2, z3, z4⟩ := ls_zero hz
  obtain ⟨g1, g2, g3, g4⟩ := (gg_iff _ _).1 z2
  have hdI : dI L.n L.s = L.n - 2 := if_pos z2
  rw [hdI] at hD
  rw [hz] at hG
  by_cases hs : srE (L.n - 2) (ldG B L t) = 0
  case neg =>
    have HF : Hid (ldE B L t = srE (L.n - 2) (ldG B L t) ∧ (ldC B L t = [] ∧ ldL B L t = []) ∧ ldK B L t = 0 ∧ ldT B L t = 0 ∧ ldN B L t cnt = cnt) := by
      have e := ld_2 (B := B) hz hs
      obtain ⟨a1, a2, a3, a4, a5⟩ := ld_no (B := B) (L := L) (t := t) (by rw [e]; exact hs)
      exact ⟨e, ⟨a1, a2⟩, a3, a4, a5 _⟩
    have eS : srE (L.n - 2) (loL L (ddL B) t) = srE (L.n - 2) (ldG B L t) := rfl
    obtain ⟨E, eE⟩ : ∃ E, E = srE (L.n - 2) (ldG B L t) := ⟨_, rfl⟩
    rw [← eE] at hs HF eS
    clear eE z1 z2 z3 z4 hdI hz hO hX
    obtain ⟨n, s, ep, sts, mks⟩ := L
    simp only at *
    unfold lV at hG ⊢
    unfold gV at hD
    go_enter Tryz.func24, Tryz.ntmps24
    go_wp2_with fail
    obtain ⟨W, hW⟩ : ∃ W, W = (w.alloc (.cells #[.int .i64 n, .int .i64 s, .int .i64 ep, sv, mv] 30)).alloc (.cells #[.int .i64 0, .slice none 0 0, .slice none 0 0, .int .i64 0] 70) := ⟨_, rfl⟩
    have kW : Hid (Kp w W) := by show Kp w W; rw [hW]; exact ((Kp.refl w).alloc _).alloc _
    have hb2 : Hid (w.heap.size + 1 < W.heap.size) := by show _ < W.heap.size; rw [hW]; simp
    have rc : Rc W (w.heap.size + 1) (.int .i64 0) (.slice none 0 0) (.slice none 0 0) (.int .i64 0) := by
      have := Rc.new (w.alloc (.cells #[.int .i64 n, .int .i64 s, .int .i64 ep, sv, mv] 30)) (.int .i64 0) (.slice none 0 0) (.slice none 0 0) (.int .i64 0) 70
      rw [← hW] at this
      rw [show (w.alloc (.cells #[.int .i64 n, .int .i64 s, .int .i64 ep, sv, mv] 30)).heap.size = w.heap.size + 1 by simp] at this
      exact this
    have lc : Lc W w.heap.size n s ep sv mv := by rw [hW]; exact (Lc.new w n s ep sv mv 30).kept ((Kp.refl _).alloc _)
    rw [← hW]
    clear hW
    refine (hG _ kW.out).mono ?_; rintro e w1 ⟨v, rfl, i1, x1, s1⟩
    have HRC1 : Hid (Rc w1 (w.heap.size + 1) (.int .i64 0) (.slice none 0 0) (.slice none 0 0) (.int .i64 0)) := rc.sp s1 (fun ht => hbn.out (by simp [ht]))
    have hnl : w.heap.size ∉ f :: g :: T := fun ht => by have := HNw.out _ ht; omega
    have HLc1 : Hid (Lc w1 w.heap.size n s ep sv mv) := lc.sp s1 (fun ht => hnl (by simp [ht]))
    have HZ1 : Hid (Rz w0 W w1 r b f g T B cnt) := ⟨T, x1, s1.mono (fun x hx => by simp [hx]), Nw.refl _ _⟩
    have HK1 : Hid (Kp w0 w1) := Sp.kp (HK.out.trans kW.out) s1 (fun x hx => HNe.out x (by simp [hx]))
    have HI1 := hid i1
    have HX1 := hid x1
    obtain ⟨d0, d1, d2, d3, d4⟩ := HLc1.out
    clear hG i1 x1 s1 rc lc
    go_wp2_with fail
    refine (hD _).mono ?_; rintro e w2a ⟨rfl, k2a⟩
    have HI2a := HI1.out.kept k2a
    clear hD
    go_wp2_with fail
    refine (hS _ v (loL ⟨n, s, ep, sts, mks⟩ (ddL B) t) _ (by have := HLn.out (ddL B); omega) HI2a.ints).mono ?_; rintro e w2 ⟨rfl, k2b⟩
    rw [eS]
    have k2 := k2a.trans k2b
    have HRC2 : Hid (Rc w2 (w.heap.size + 1) (.int .i64 0) (.slice none 0 0) (.slice none 0 0) (.int .i64 0)) := HRC1.out.kept k2
    have HLc2 : Hid (Lc w2 w.heap.size n s ep sv mv) := HLc1.out.kept k2
    have HZ2 : Hid (Rz w0 W w2 r b f g T B cnt) := HZ1.out.kp k2
    have HK2 : Hid (Kp w0 w2) := HK1.out.trans k2
    have HI2 : Hid (IntsAt w2 W.heap.size v (loL ⟨n, s, ep, sts, mks⟩ (ddL B) t)) := HI1.out.kept k2
    have HX2 : Hid (RdX w0 w2 r b f g T B cnt) := HX1.out.kp k2
    clear hS k2 k2a k2b HRC1 HLc1 HZ1 HK1 HI1 HI2a HX1 d0 d1 d2 d3 d4 eS
    obtain ⟨c0, c1, c2, c3, z0⟩ := HRC2.out
    have HRC := HRC2
    clear HLc2 HI2 HX2
    go_wp2
    refine bodyPost_ret (results_row2 rfl _ _ (w.heap.size + 1) rfl rfl (HRC.out.over (.int .i64 0) (.slice none 0 0) (.slice none 0 0) (.int .i64 0))) rfl ?_
    exact ⟨_, _, B, by rw [HF.out.1, HF.out.2.2.1, HF.out.2.2.2.1]; rfl, by rw [HF.out.2.1.1]; exact .empty none 0 (by unfold maxLen; omega), by rw [HF.out.2.1.2]; exact .empty none 0 (by unfold maxLen; omega), Sm.refl B, by rw [HF.out.2.2.2.2]; exact (Rz.finN kW.out HZ2.out (ovR_sp _ _ _ _ _ _) hb1.out hb2.out hbn.out hbr.out rfl).rzM HF.out.2.1.2⟩
  obtain ⟨N, hN⟩ : ∃ N : Nat, L.n = N := ⟨L.n.toNat, by omega⟩
  have hNn : L.n.toNat = N := by omega
  have eS : srE (L.n - 2) (loL L (ddL B) t) = 0 := hs
  have hOO := fun w' (k : Kp w0 w') (x : RdX w0 w' r b f g T B cnt) gv (hi : IntsIn w' gv (ldG B L t)) => hO w' k x N hN z2 z3 gv (ldG B L t) hi
  clear hO
  by_cases hr : roE B L.n t (ldG B L t) L.n.toNat = 0
  case neg =>
    have HF : Hid (ldE B L t = roE B L.n t (ldG B L t) L.n.toNat ∧ (ldC B L t = [] ∧ ldL B L t = []) ∧ ldK B L t = 0 ∧ ldT B L t = 0 ∧ ldN B L t cnt = cnt) := by
      have e := ld_3 (B := B) hz hs hr
      obtain ⟨a1, a2, a3, a4, a5⟩ := ld_no (B := B) (L := L) (t := t) (by rw [e]; exact hr)
      exact ⟨e, ⟨a1, a2⟩, a3, a4, a5 _⟩
    rw [hNn, hN] at hr HF
    obtain ⟨E, eE⟩ : ∃ E, E = roE B N t (ldG B L t) N := ⟨_, rfl⟩
    rw [← eE] at hr HF hOO
    clear eE z1 z2 z3 z4 hdI hz hX
    unfold lV at hOO
    obtain ⟨n, s, ep, sts, mks⟩ := L
    simp only at *
    subst hN
    unfold lV at hG ⊢
    unfold gV at hD
    go_enter Tryz.func24, Tryz.ntmps24
    go_wp2_with fail
    obtain ⟨W, hW⟩ : ∃ W, W = (w.alloc (.cells #[.int .i64 (N : Int), .int .i64 s, .int .i64 ep, sv, mv] 30)).alloc (.cells #[.int .i64 0, .slice none 0 0, .slice none 0 0, .int .i64 0] 70) := ⟨_, rfl⟩
    have kW : Hid (Kp w W) := by show Kp w W; rw [hW]; exact ((Kp.refl w).alloc _).alloc _
    have hb2 : Hid (w.heap.size + 1 < W.heap.size) := by show _ < W.heap.size; rw [hW]; simp
    have rc : Rc W (w.heap.size + 1) (.int .i64 0) (.slice none 0 0) (.slice none 0 0) (.int .i64 0) := by
      have := Rc.new (w.alloc (.cells #[.int .i64 (N : Int), .int .i64 s, .int .i64 ep, sv, mv] 30)) (.int .i64 0) (.slice none 0 0) (.slice none 0 0) (.int .i64 0) 70
      rw [← hW] at this
      rw [show (w.alloc (.cells #[.int .i64 (N : Int), .int .i64 s, .int .i64 ep, sv, mv] 30)).heap.size = w.heap.size + 1 by simp] at this
      exact this
    have lc : Lc W w.heap.size N s ep sv mv := by rw [hW]; exact (Lc.new w N s ep sv mv 30).kept ((Kp.refl _).alloc _)
    rw [← hW]
    clear hW
    refine (hG _ kW.out).mono ?_; rintro e w1 ⟨v, rfl, i1, x1, s1⟩
    have HRC1 : Hid (Rc w1 (w.heap.size + 1) (.int .i64 0) (.slice none 0 0) (.slice none 0 0) (.int .i64 0)) := rc.sp s1 (fun ht => hbn.out (by simp [ht]))
    have hnl : w.heap.size ∉ f :: g :: T := fun ht => by have := HNw.out _ ht; omega
    have HLc1 : Hid (Lc w1 w.heap.size N s ep sv mv) := lc.sp s1 (fun ht => hnl (by simp [ht]))
    have HZ1 : Hid (Rz w0 W w1 r b f g T B cnt) := ⟨T, x1, s1.mono (fun x hx => by simp [hx]), Nw.refl _ _⟩
    have HK1 : Hid (Kp w0 w1) := Sp.kp (HK.out.trans kW.out) s1 (fun x hx => HNe.out x (by simp [hx]))
    have HI1 := hid i1
    have HX1 := hid x1
    obtain ⟨d0, d1, d2, d3, d4⟩ := HLc1.out
    clear hG i1 x1 s1 rc lc
    go_wp2_with fail
    refine (hD _).mono ?_; rintro e w2a ⟨rfl, k2a⟩
    have HI2a := HI1.out.kept k2a
    clear hD
    go_wp2_with fail
    refine (hS _ v (loL ⟨N, s, ep, sts, mks⟩ (ddL B) t) _ (by have := HLn.out (ddL B); omega) HI2a.ints).mono ?_; rintro e w2 ⟨rfl, k2b⟩
    rw [eS]
    have k2 := k2a.trans k2b
    have HRC2 : Hid (Rc w2 (w.heap.size + 1) (.int .i64 0) (.slice none 0 0) (.slice none 0 0) (.int .i64 0)) := HRC1.out.kept k2
    have HLc2 : Hid (Lc w2 w.heap.size N s ep sv mv) := HLc1.out.kept k2
    have HZ2 : Hid (Rz w0 W w2 r b f g T B cnt) := HZ1.out.kp k2
    have HK2 : Hid (Kp w0 w2) := HK1.out.trans k2
    have HI2 : Hid (IntsAt w2 W.heap.size v (loL ⟨N, s, ep, sts, mks⟩ (ddL B) t)) := HI1.out.kept k2
    have HX2 : Hid (RdX w0 w2 r b f g T B cnt) := HX1.out.kp k2
    clear hS k2 k2a k2b HRC1 HLc1 HZ1 HK1 HI1 HI2a HX1 d0 d1 d2 d3 d4 eS
    obtain ⟨d0, d1, d2, d3, d4⟩ := HLc2.out
    go_wp2_with fail
    refine (hOO _ HK2.out HX2.out v HI2.out.ints).mono ?_; rintro e w3 ⟨cv, B', rfl, q3, sm3, z3'⟩
    have HZ3 : Hid (Rz w0 W w3 r b f g T B' cnt) := HZ2.out.trans2 HX2.out z3'
    have HS3 := hid sm3
    have HRC3 : Hid (Rc w3 (w.heap.size + 1) (.int .i64 0) (.slice none 0 0) (.slice none 0 0) (.int .i64 0)) := HRC2.out.sp z3'.sp hbn.out
    obtain ⟨c0, c1, c2, c3, z0⟩ := HRC3.out
    have HRC := HRC3
    clear HLc2 HI2 HX2 hOO q3 sm3 z3' HZ2 HRC2 d0 d1 d2 d3 d4
    go_wp2
    refine bodyPost_ret (results_row2 rfl _ _ (w.heap.size + 1) rfl rfl (HRC.out.over (.int .i64 0) (.slice none 0 0) (.slice none 0 0) (.int .i64 0))) rfl ?_
    exact ⟨_, _, B', by rw [HF.out.1, HF.out.2.2.1, HF.out.2.2.2.1]; rfl, by rw [HF.out.2.1.1]; exact .empty none 0 (by unfold maxLen; omega), by rw [HF.out.2.1.2]; exact .empty none 0 (by unfold maxLen; omega), HS3.out, by rw [HF.out.2.2.2.2]; exact (Rz.finN kW.out HZ3.out (ovR_sp _ _ _ _ _ _) hb1.out hb2.out hbn.out hbr.out rfl).rzM HF.out.2.1.2⟩
  have HF0 : Hid (ldE B L t = fxE (ldR B L t) (ldG B L t)) := ld_4 hz hs hr
  have HN0 := @ld_no B L t
  have HY0 := @ld_yes B L t
  have eR : ldR B L t = roK B N t (ldG B L t) N N := by unfold ldR; rw [hNn, hN]
  rw [hNn, hN] at hr
  rw [hr] at hOO
  have HRT : Hid (∀ k, k < N → ((ldR B L t).getD k noS).size ≤ maxLen) := fun k hk => by
    rw [eR, roK_at _ _ _ _ _ _ _ hk]
    unfold roC
    split
    · have := rdT_size HX.out.bay (mM N t k) (100 + t)
      unfold maxLen; omega
    · show (0 : Nat) ≤ maxLen
      exact Nat.zero_le _
  have HRL : Hid ((ldR B L t).length = N) := by show (ldR B L t).length = N; rw [eR, roK_len]
  simp only [← eR] at hOO
  have HLnG : Hid ((ldG B L t).length * 8 ≤ 140737488355328) := by
    have h9 := HLn.out (ddL B)
    show (loL L (ddL B) t).length * 8 ≤ _
    omega
  have HG0 : Hid (ldG B L t = loL L (ddL B) t) := rfl
  have HKd : Hid (ldE B L t = 0 → ldK B L t = srK (L.n - 2) (loL L (ddL B) t)) := fun h => (HY0 h).2.2.1
  clear eR z1 z2 z3 z4 hdI hz hs hr
  unfold lV at hOO
  obtain ⟨n, s, ep, sts, mks⟩ := L
  simp only at *
  subst hN
  unfold lV at hG ⊢
  unfold gV at hD
  go_enter Tryz.func24, Tryz.ntmps24
  go_wp2_with fail
  obtain ⟨W, hW⟩ : ∃ W, W = (w.alloc (.cells #[.int .i64 (N : Int), .int .i64 s, .int .i64 ep, sv, mv] 30)).alloc (.cells #[.int .i64 0, .slice none 0 0, .slice none 0 0, .int .i64 0] 70) := ⟨_, rfl⟩
  have kW : Hid (Kp w W) := by show Kp w W; rw [hW]; exact ((Kp.refl w).alloc _).alloc _
  have hb2 : Hid (w.heap.size + 1 < W.heap.size) := by show _ < W.heap.size; rw [hW]; simp
  have rc : Rc W (w.heap.size + 1) (.int .i64 0) (.slice none 0 0) (.slice none 0 0) (.int .i64 0) := by
    have := Rc.new (w.alloc (.cells #[.int .i64 (N : Int), .int .i64 s, .int .i64 ep, sv, mv] 30)) (.int .i64 0) (.slice none 0 0) (.slice none 0 0) (.int .i64 0) 70
    rw [← hW] at this
    rw [show (w.alloc (.cells #[.int .i64 (N : Int), .int .i64 s, .int .i64 ep, sv, mv] 30)).heap.size = w.heap.size + 1 by simp] at this
    exact this
  have lc : Lc W w.heap.size N s ep sv mv := by rw [hW]; exact (Lc.new w N s ep sv mv 30).kept ((Kp.refl _).alloc _)
  rw [← hW]
  clear hW
  refine (hG _ kW.out).mono ?_; rintro e w1 ⟨v, rfl, i1, x1, s1⟩
  have HRC1 : Hid (Rc w1 (w.heap.size + 1) (.int .i64 0) (.slice none 0 0) (.slice none 0 0) (.int .i64 0)) := rc.sp s1 (fun ht => hbn.out (by simp [ht]))
  have hnl : w.heap.size ∉ f :: g :: T := fun ht => by have := HNw.out _ ht; omega
  have HLc1 : Hid (Lc w1 w.heap.size N s ep sv mv) := lc.sp s1 (fun ht => hnl (by simp [ht]))
  have HZ1 : Hid (Rz w0 W w1 r b f g T B cnt) := ⟨T, x1, s1.mono (fun x hx => by simp [hx]), Nw.refl _ _⟩
  have HK1 : Hid (Kp w0 w1) := Sp.kp (HK.out.trans kW.out) s1 (fun x hx => HNe.out x (by simp [hx]))
  have HI1 := hid i1
  have HX1 := hid x1
  obtain ⟨d0, d1, d2, d3, d4⟩ := HLc1.out
  clear hG i1 x1 s1 rc lc
  go_wp2_with fail
  refine (hD _).mono ?_; rintro e w2a ⟨rfl, k2a⟩
  have HI2a := HI1.out.kept k2a
  clear hD
  go_wp2_with fail
  refine (hS _ v (loL ⟨N, s, ep, sts, mks⟩ (ddL B) t) _ (by have := HLn.out (ddL B); omega) HI2a.ints).mono ?_; rintro e w2 ⟨rfl, k2b⟩
  rw [eS]
  have k2 := k2a.trans k2b
  have HRC2 : Hid (Rc w2 (w.heap.size + 1) (.int .i64 0) (.slice none 0 0) (.slice none 0 0) (.int .i64 0)) := HRC1.out.kept k2
  have HLc2 : Hid (Lc w2 w.heap.size N s ep sv mv) := HLc1.out.kept k2
  have HZ2 : Hid (Rz w0 W w2 r b f g T B cnt) := HZ1.out.kp k2
  have HK2 : Hid (Kp w0 w2) := HK1.out.trans k2
  have HI2 : Hid (IntsAt w2 W.heap.size v (loL ⟨N, s, ep, sts, mks⟩ (ddL B) t)) := HI1.out.kept k2
  have HX2 : Hid (RdX w0 w2 r b f g T B cnt) := HX1.out.kp k2
  clear hS k2 k2a k2b HRC1 HLc1 HZ1 HK1 HI1 HI2a HX1 d0 d1 d2 d3 d4 eS
  obtain ⟨d0, d1, d2, d3, d4⟩ := HLc2.out
  go_wp2_with fail
  refine (hOO _ HK2.out HX2.out v HI2.out.ints).mono ?_; rintro e w3 ⟨cv, B', rfl, q3, sm3, z3'⟩
  have HP2 : Hid (Sp (f :: g :: T) W w2) := HZ2.out.sp
  have HZ3 : Hid (Rz w0 W w3 r b f g T B' cnt) := HZ2.out.trans2 HX2.out z3'
  have HS3 := hid sm3
  have HRC3 : Hid (Rc w3 (w.heap.size + 1) (.int .i64 0) (.slice none 0 0) (.slice none 0 0) (.int .i64 0)) := HRC2.out.sp z3'.sp hbn.out
  have hXX := hX w3
  clear hX
  obtain ⟨c0, c1, c2, c3, z0⟩ := HRC3.out
  obtain ⟨T3, x3, p3a, n3a⟩ := z3'
  have p3 : Sp (f :: g :: T) W w3 := HP2.out.trans p3a
  have n3 : Nw W T T3 := fun x hx => (n3a x hx).imp id (fun h => Nat.le_trans HP2.out.size h)
  have HGv : Hid (0 < (loL ⟨N, s, ep, sts, mks⟩ (ddL B) t).length → ∀ q, v.ownBlock = some q → w.heap.size ≤ q ∧ q ∉ T3) := fun h0 q hq => ⟨Nat.le_trans kW.out.size (HI2.out.far h0 q hq).1, fun hm => by
    rcases n3a q hm with h | h
    · have := HNw.out q (List.mem_cons_of_mem _ (List.mem_cons_of_mem _ h)); have := (HI2.out.far h0 q hq).1; have := kW.out.size; omega
    · have := (HI2.out.far h0 q hq).2; omega⟩
  have r1 := x3.c1
  have HI3 : Hid (IntsAt w3 W.heap.size v (loL ⟨N, s, ep, sts, mks⟩ (ddL B) t)) := HI2.out.sp p3a (fun x hx => by have := HNw.out x hx; have := kW.out.size; omega)
  clear HLc2 HI2 HX2 hOO sm3 p3a n3a HZ2 HRC2 HP2 d0 d1 d2 d3 d4
  go_wp2_with fail
  refine (hXX T3 B' x3 cv v _ _ (q3 trivial) (fun i hi => HRT.out i (by rw [← HRL.out]; exact hi)) HI3.out.ints HLnG.out).mono ?_; rintro e w4 ⟨v4, rfl, q4, f4, s4, nv4⟩
  have HV4 : Hid (∀ q, v4.ownBlock = some q → w3.heap.size ≤ q) := nv4
  have HV3 : Hid (w.heap.size ≤ w3.heap.size) := Nat.le_trans kW.out.size p3.size
  clear nv4
  rw [← HG0.out, ← HF0.out]
  rw [← HG0.out] at q4 f4
  have hbn3 : Hid (w.heap.size + 1 ∉ f :: g :: T3) := nw_out (nw_fg n3) hb2.out hbn.out
  have HRC4 : Hid (Rc w4 (w.heap.size + 1) (.int .i64 0) (.slice none 0 0) (.slice none 0 0) (.int .i64 0)) := HRC3.out.sp s4 (fun ht => hbn3.out (by simp only [List.mem_cons, List.not_mem_nil, or_false] at ht; rcases ht with h | h <;> simp [h]))
  have HZ4 : Hid (Rz w0 W w4 r b f g T B' (fxC cnt (ldR B ⟨N, s, ep, sts, mks⟩ t) (ldG B ⟨N, s, ep, sts, mks⟩ t))) := by
    obtain ⟨T4, y1, y2, y3⟩ := x3.fixed f4 s4
    exact ⟨T4, y1, p3.then y2 (nw_fg n3), n3.trans y3 p3.size⟩
  have HX4 : Hid (RdX w0 w4 r b f g T3 B' (fxC cnt (ldR B ⟨N, s, ep, sts, mks⟩ t) (ldG B ⟨N, s, ep, sts, mks⟩ t))) := x3.fixedX f4 s4
  have HP4 : Hid (Sp (f :: g :: T) W w4) := p3.then (s4.mono (fun x hx => by simp only [List.mem_cons, List.not_mem_nil, or_false] at hx; rcases hx with h | h <;> simp [h])) (nw_fg n3)
  have HN4 : Hid (Nw W T T3) := n3
  have HV5 : Hid (∀ q, v4.ownBlock = some q → w.heap.size ≤ q ∧ q ∉ T3) := fun q hq => ⟨Nat.le_trans HV3.out (HV4.out q hq), fun ht => by have := x3.low q (List.mem_cons_of_mem _ (List.mem_cons_of_mem _ ht)); have := HV4.out q hq; omega⟩
  have HI4 : Hid (IntsAt w4 W.heap.size v (loL ⟨N, s, ep, sts, mks⟩ (ddL B) t)) := HI3.out.sp s4 (fun x hx => by
    have : x ∈ f :: g :: T := by simp only [List.mem_cons, List.not_mem_nil, or_false] at hx; rcases hx with h | h <;> simp [h]
    have := HNw.out x this; have := kW.out.size; omega)
  have HQ4 := hid q4
  clear q3 hXX x3 p3 n3 r1 c0 c1 c2 c3 z0 f4 s4 q4 HI3 HRC3 HZ3
  obtain ⟨c0, c1, c2, c3, z0⟩ := HRC4.out
  obtain ⟨E, eE⟩ : ∃ E, E = ldE B ⟨N, s, ep, sts, mks⟩ t := ⟨_, rfl⟩
  rw [← eE]
  by_cases hE : E = 0
  · have hE0 : ldE B ⟨N, s, ep, sts, mks⟩ t = 0 := by rw [← eE]; exact hE
    obtain ⟨a1, a2, a3, a4, a5⟩ := HY0 hE0
    have HA : Hid (ldC B ⟨N, s, ep, sts, mks⟩ t = fxL (ldR B ⟨N, s, ep, sts, mks⟩ t) (ldG B ⟨N, s, ep, sts, mks⟩ t) ∧ ldL B ⟨N, s, ep, sts, mks⟩ t = loL ⟨N, s, ep, sts, mks⟩ (ddL B) t ∧ ldK B ⟨N, s, ep, sts, mks⟩ t = srK ((N : Int) - 2) (ldG B ⟨N, s, ep, sts, mks⟩ t) ∧ ldT B ⟨N, s, ep, sts, mks⟩ t = t ∧ ldN B ⟨N, s, ep, sts, mks⟩ t cnt = fxC cnt (ldR B ⟨N, s, ep, sts, mks⟩ t) (ldG B ⟨N, s, ep, sts, mks⟩ t)) := ⟨a1, a2, a3, a4, a5 cnt⟩
    have HE0 := hid hE0
    clear a1 a2 a3 a4 a5 eE hE0 HY0 HN0 HKd
    subst hE
    obtain ⟨kd, ekd⟩ : ∃ kd, kd = srK ((N : Int) - 2) (ldG B ⟨N, s, ep, sts, mks⟩ t) := ⟨_, rfl⟩
    rw [← ekd] at HA ⊢
    clear ekd
    obtain ⟨a4, k4, m4, hv4⟩ : ∃ a k m, v4 = .slice a m k := by obtain ⟨a, k, e, _⟩ := HQ4.out.slice; exact ⟨a, k, _, e⟩
    obtain ⟨a5, k5, m5, hv5⟩ : ∃ a k m, v = .slice a m k := by obtain ⟨a, k, e⟩ := HI4.out.slice; exact ⟨a, k, _, e⟩
    subst hv4 hv5
    go_wp2
    refine bodyPost_ret (results_row2 rfl _ _ (w.heap.size + 1) rfl rfl (HRC4.out.over (.int .i64 t) (.slice a4 m4 k4) (.slice a5 m5 k5) (.int .i64 kd))) rfl ?_
    exact ⟨_, _, B', by rw [HA.out.2.2.2.1, HA.out.2.2.1, HE0.out]; rfl, by rw [HA.out.1]; exact HQ4.out.over HRC4.out _ _ _ _, by rw [HA.out.2.1]; exact (HI4.out.sp (ovR_sp _ _ _ _ _ _) (fun x hx => by rw [List.mem_singleton.1 hx]; exact hb2.out)).mono kW.out.size, HS3.out, by rw [HA.out.2.2.2.2]; exact RzM.fin kW.out HX4.out HP4.out HN4.out (ovR_sp _ _ _ _ _ _) hb1.out hb2.out hbn.out hbr.out HV5.out (by rw [HA.out.2.1]; exact HGv.out)⟩
  · have hE0 : ldE B ⟨N, s, ep, sts, mks⟩ t ≠ 0 := by rw [← eE]; exact hE
    obtain ⟨a1, a2, a3, a4, a5⟩ := HN0 hE0
    have HF : Hid (ldE B ⟨N, s, ep, sts, mks⟩ t = E ∧ (ldC B ⟨N, s, ep, sts, mks⟩ t = [] ∧ ldL B ⟨N, s, ep, sts, mks⟩ t = []) ∧ ldK B ⟨N, s, ep, sts, mks⟩ t = 0 ∧ ldT B ⟨N, s, ep, sts, mks⟩ t = 0 ∧ ldN B ⟨N, s, ep, sts, mks⟩ t cnt = cnt) := ⟨eE.symm, ⟨a1, a2⟩, a3, a4, a5 cnt⟩
    have HC0 : Hid (fxC cnt (ldR B ⟨N, s, ep, sts, mks⟩ t) (ldG B ⟨N, s, ep, sts, mks⟩ t) = cnt) := by
      show fxC cnt _ _ = cnt
      unfold fxC
      rw [if_neg (by rw [← HF0.out]; exact hE0)]
    rw [HC0.out] at HZ4
    clear a1 a2 a3 a4 a5 eE hE0 HY0 HN0 HKd HC0
    have HRC := HRC4
    go_wp2
    refine bodyPost_ret (results_row2 rfl _ _ (w.heap.size + 1) rfl rfl (HRC.out.over (.int .i64 0) (.slice none 0 0) (.slice none 0 0) (.int .i64 0))) rfl ?_
    exact ⟨_, _, B', by rw [HF.out.1, HF.out.2.2.1, HF.out.2.2.2.1]; rfl, by rw [HF.out.2.1.1]; exact .empty none 0 (by unfold maxLen; omega), by rw [HF.out.2.1.2]; exact .empty none 0 (by unfold maxLen; omega), HS3.out, by rw [HF.out.2.2.2.2]; exact (Rz.finN kW.out HZ4.out (ovR_sp _ _ _ _ _ _) hb1.out hb2.out hbn.out hbr.out rfl).rzM HF.out.2.1.2⟩

theorem lddN_any {w0 w : World} {r b f g : Nat} {T : List Nat} {B : BS} {cnt : Nat → Int} (h : RdX w0 w r b f g T B cnt) (K : Kp w0 w) (hT : Tab w0) (hq : ∀ j, j < 8 → 0 ≤ cnt j ∧ cnt j < 4611686018427387904) (L : LB) (sv mv : Value) (t : Int) (h1 : ∀ w', Sp (f :: g :: T) w w' → Nl w' sv L.sts ∧ Nl w' mv L.mks) : Calls Tryz.prog 24 #[.pointer (some ⟨r, 0, none⟩), lV L.n L.s L.ep sv mv, .int .i64 t] w fun e w' => ∃ cv gv B', e = .returned (.tuple #[.agg #[.int .i64 (ldT B L t), cv, gv, .int .i64 (ldK B L t)], .int .i64 (ldE B L t)]) ∧ StrsIn w' cv (ldC B L t) ∧ IntsAt w' w.heap.size gv (ldL B L t) ∧ Sm B B' ∧ RzN w0 w w' r b f g T B' (ldN B L t cnt) cv :=
  (lddM_any h K hT hq L sv mv t h1).mono fun e w' ⟨cv, gv, B', h1, h2, h3, h4, h5⟩ => ⟨cv, gv, B', h1, h2, h3, h4, h5.rzN⟩

theorem ldd_any {w0 w : World} {r b f g : Nat} {T : List Nat} {B : BS} {cnt : Nat → Int} (h : RdX w0 w r b f g T B cnt) (K : Kp w0 w) (hT : Tab w0) (hq : ∀ j, j < 8 → 0 ≤ cnt j ∧ cnt j < 4611686018427387904) (L : LB) (sv mv : Value) (t : Int) (h1 : ∀ w', Sp (f :: g :: T) w w' → Nl w' sv L.sts ∧ Nl w' mv L.mks) : Calls Tryz.prog 24 #[.pointer (some ⟨r, 0, none⟩), lV L.n L.s L.ep sv mv, .int .i64 t] w fun e w' => ∃ cv gv B', e = .returned (.tuple #[.agg #[.int .i64 (ldT B L t), cv, gv, .int .i64 (ldK B L t)], .int .i64 (ldE B L t)]) ∧ StrsIn w' cv (ldC B L t) ∧ IntsAt w' w.heap.size gv (ldL B L t) ∧ Sm B B' ∧ Rz w0 w w' r b f g T B' (ldN B L t cnt) :=
  (lddN_any h K hT hq L sv mv t h1).mono fun e w' ⟨cv, gv, B', h1, h2, h3, h4, h5⟩ => ⟨cv, gv, B', h1, h2, h3, h4, h5.rz⟩

end Go.Proofs.YtonooelffokfkaaGreatDoor

namespace Go.Proofs.YtonooelffokfkaaGreatDoor
open Go.RowKit Plain
set_option linter.unusedVariables false

theorem fixZ_len (n k : Nat) (Z : List ByteArray) (g : List Nat) : (fixZ n k Z g).length = Z.length := by
  match g with
  | [] => rfl
  | [i] =>
    show (if i ≤ k then byPL n k Z i else mkQL n k Z).length = _
    split <;> simp [byPL, mkQL]
  | [i, j] =>
    show (if j = k + 1 then mkQL n k (byPL n k Z i) else if j = k then byPL n k (byQL n k Z i) k else byBL n k Z i j).length = _
    split
    · simp [byPL, mkQL]
    · split <;> simp [byPL, byQL, byBL]
  | _ :: _ :: _ :: _ => rfl
theorem fxL_len {L : List ByteArray} {lost : List Int} (h : fxE L lost = 0) : (fxL L lost).length = L.length := by
  unfold fxL; rw [if_pos h, fixZ_len, blk_length]
theorem ldR_len (B : BS) (L : LB) (t : Int) : (ldR B L t).length = L.n.toNat := roK_len _ _ _ _ _ _
theorem ldC_len {B : BS} {L : LB} {t : Int} (h1 : lsE L t = 0) (h : ldE B L t = 0) : (ldC B L t).length = L.n.toNat := by
  rw [(ld_yes h).1]
  have hs : srE (L.n - 2) (ldG B L t) = 0 := by
    by_cases e : srE (L.n - 2) (ldG B L t) = 0
    · exact e
    · rw [ld_2 h1 e] at h; exact h
  have hr : roE B L.n t (ldG B L t) L.n.toNat = 0 := by
    by_cases e : roE B L.n t (ldG B L t) L.n.toNat = 0
    · exact e
    · rw [ld_3 h1 hs e] at h; exact h
  rw [ld_4 h1 hs hr] at h
  rw [fxL_len h, ldR_len]

/-! ### One -/
def onE (B : BS) (L : LB) (t c : Int) : Int := if lsE L t = 0 then (if 0 ≤ c ∧ c < L.n - 2 then (if (ldG B L t).contains c = true then ldE B L t else reE B L.n L.s t c) else 3) else lsE L t
def onT (B : BS) (L : LB) (t c : Int) : ByteArray := if lsE L t = 0 then (if 0 ≤ c ∧ c < L.n - 2 then (if (ldG B L t).contains c = true then (ldC B L t).getD c.toNat noS else reT B L.n L.s t c) else noS) else noS
def onN (B : BS) (L : LB) (t c : Int) (cnt : Nat → Int) : Nat → Int := if lsE L t = 0 then (if 0 ≤ c ∧ c < L.n - 2 then (if (ldG B L t).contains c = true then ldN B L t cnt else cnt) else cnt) else cnt
theorem on_1 {B : BS} {L : LB} {t c : Int} (h : lsE L t ≠ 0) : onE B L t c = lsE L t ∧ onT B L t c = noS ∧ ∀ cnt, onN B L t c cnt = cnt := ⟨if_neg h, if_neg h, fun _ => if_neg h⟩
theorem on_2 {B : BS} {L : LB} {t c : Int} (h : lsE L t = 0) (h2 : ¬ (0 ≤ c ∧ c < L.n - 2)) : onE B L t c = 3 ∧ onT B L t c = noS ∧ ∀ cnt, onN B L t c cnt = cnt := ⟨(if_pos h).trans (if_neg h2), (if_pos h).trans (if_neg h2), fun _ => (if_pos h).trans (if_neg h2)⟩
theorem on_3 {B : BS} {L : LB} {t c : Int} (h : lsE L t = 0) (h2 : 0 ≤ c ∧ c < L.n - 2) (h3 : (ldG B L t).contains c = false) : onE B L t c = reE B L.n L.s t c ∧ onT B L t c = reT B L.n L.s t c ∧ ∀ cnt, onN B L t c cnt = cnt :=
  ⟨(if_pos h).trans ((if_pos h2).trans (if_neg (by rw [h3]; decide))), (if_pos h).trans ((if_pos h2).trans (if_neg (by rw [h3]; decide))), fun _ => (if_pos h).trans ((if_pos h2).trans (if_neg (by rw [h3]; decide)))⟩
theorem on_4 {B : BS} {L : LB} {t c : Int} (h : lsE L t = 0) (h2 : 0 ≤ c ∧ c < L.n - 2) (h3 : (ldG B L t).contains c = true) : onE B L t c = ldE B L t ∧ onT B L t c = (ldC B L t).getD c.toNat noS ∧ ∀ cnt, onN B L t c cnt = ldN B L t cnt :=
  ⟨(if_pos h).trans ((if_pos h2).trans (if_pos h3)), (if_pos h).trans ((if_pos h2).trans (if_pos h3)), fun _ => (if_pos h).trans ((if_pos h2).trans (if_pos h3))⟩

set_option maxRecDepth 100000 in
set_option maxHeartbeats 2000000 in
theorem one_any {w0 w : World} {r b f g : Nat} {T : List Nat} {B : BS} {cnt : Nat → Int} (h : RdX w0 w r b f g T B cnt) (K : Kp w0 w) (hT : Tab w0) (hq : ∀ j, j < 8 → 0 ≤ cnt j ∧ cnt j < 4611686018427387904) (L : LB) (sv mv : Value) (t c : Int) (h1 : ∀ w', Sp (f :: g :: T) w w' → Nl w' sv L.sts ∧ Nl w' mv L.mks) : Calls Tryz.prog 26 #[.pointer (some ⟨r, 0, none⟩), lV L.n L.s L.ep sv mv, .int .i64 t, .int .i64 c] w fun e w' => ∃ B', e = .returned (.tuple #[.string (onT B L t c), .int .i64 (onE B L t c)]) ∧ Sm B B' ∧ Rz w0 w w' r b f g T B' (onN B L t c cnt) := by
  have hG := fun w' (k : Kp w w') => gone_any (h.kp k) (K.trans k) hT L sv mv t (fun w'' k' => h1 w'' ((k.sp _).trans k'))
  have hD := fun w' => data_any L.n L.s w'
  have hC := fun w' Bd v l (hi : IntsAt w' Bd v l) => contains_any v l c Bd w' hi
  have hR := fun w' (k : Kp w0 w') (x : RdX w0 w' r b f g T B cnt) => rrd_any x k L.n L.s L.ep sv mv t c
  have hL := fun w' (k : Kp w0 w') (x : RdX w0 w' r b f g T B cnt) (q : Sp (f :: g :: T) w w') => ldd_any x k hT hq L sv mv t (fun w'' k' => h1 w'' (q.trans k'))
  have HK := hid K
  have HNw : Hid (∀ x, x ∈ f :: g :: T → x < w.heap.size) := h.low
  have HNe : Hid (∀ x, x ∈ f :: g :: T → w0.heap.size ≤ x) := h.new
  clear h K hT h1
  have O1 := @on_1 B L t c
  have O2 := @on_2 B L t c
  have O3 := @on_3 B L t c
  have O4 := @on_4 B L t c
  have HCL := @ldC_len B L t
  have hdI : lsE L t = 0 → dI L.n L.s = L.n - 2 ∧ 4 ≤ L.n ∧ L.n ≤ 32 := fun h => by
    obtain ⟨_, z2, _, _⟩ := ls_zero h
    obtain ⟨g1, g2, _, _⟩ := (gg_iff _ _).1 z2
    exact ⟨if_pos z2, g1, g2⟩
  obtain ⟨X, eX⟩ : ∃ X, X = onE B L t c := ⟨_, rfl⟩
  obtain ⟨Y, eY⟩ : ∃ X, X = onT B L t c := ⟨_, rfl⟩
  obtain ⟨Z, eZ⟩ : ∃ X, X = onN B L t c := ⟨_, rfl⟩
  rw [← eX, ← eY, ← eZ] at O1 O2 O3 O4
  rw [← eX, ← eY, ← eZ]
  clear eX eY eZ
  obtain ⟨n, s, ep, sts, mks⟩ := L
  simp only at *
  obtain ⟨G, eG⟩ : ∃ G, G = ldG B ⟨n, s, ep, sts, mks⟩ t := ⟨_, rfl⟩
  have eG' : loL ⟨n, s, ep, sts, mks⟩ (ddL B) t = G := eG.symm
  rw [eG'] at hG
  rw [← eG] at O3 O4
  clear eG eG'
  obtain ⟨E, eE⟩ : ∃ E, E = lsE ⟨n, s, ep, sts, mks⟩ t := ⟨_, rfl⟩
  rw [← eE] at hG O1 O2 O3 O4 hdI HCL
  clear eE
  unfold lV at hG hR hL ⊢
  unfold gV at hD
  have kW : Kp w (w.alloc (.cells #[.int .i64 n, .int .i64 s, .int .i64 ep, sv, mv] 30)) := (Kp.refl w).alloc _
  have lc := Lc.new w n s ep sv mv 30
  have HnT : Hid (w.heap.size ∉ T) := fun ht => by have := HNw.out _ (show w.heap.size ∈ f :: g :: T by simp [ht]); omega
  by_cases hz : E = 0
  case neg =>
    obtain ⟨rfl, rfl, o3⟩ := O1 hz
    have HO3 := hid o3
    clear O1 O2 O3 O4 hD hC hR hL HCL hdI o3
    go_enter Tryz.func26, Tryz.ntmps26
    go_wp2_with fail
    refine (hG _ kW).mono ?_; rintro e w1 ⟨v, rfl, i1, x1, s1⟩
    clear hG
    go_wp2
    go_ret2
    exact ⟨B, rfl, Sm.refl B, by rw [HO3.out]; exact ⟨T, x1, (kW.sp _).trans (s1.mono (fun x hx => by simp [hx])), Nw.refl _ _⟩⟩
  subst hz
  obtain ⟨dd, n1, n2⟩ := hdI rfl
  rw [dd] at hD
  clear O1 hdI dd
  by_cases hc : 0 ≤ c ∧ c < n - 2
  case neg =>
    obtain ⟨rfl, rfl, o3⟩ := O2 rfl hc
    have HO3 := hid o3
    clear O2 O3 O4 hC hR hL HCL o3
    by_cases hc0 : c < 0
    · clear hc
      go_enter Tryz.func26, Tryz.ntmps26
      go_wp2_with fail
      refine (hG _ kW).mono ?_; rintro e w1 ⟨v, rfl, i1, x1, s1⟩
      clear hG
      go_wp2
      go_ret2
      exact ⟨B, rfl, Sm.refl B, by rw [HO3.out]; exact ⟨T, x1, (kW.sp _).trans (s1.mono (fun x hx => by simp [hx])), Nw.refl _ _⟩⟩
    · have hc1 : n - 2 ≤ c := by omega
      clear hc
      go_enter Tryz.func26, Tryz.ntmps26
      go_wp2_with fail
      refine (hG _ kW).mono ?_; rintro e w1 ⟨v, rfl, i1, x1, s1⟩
      obtain ⟨d0, d1, d2, d3, d4⟩ := lc.sp s1 HnT.out
      clear hG lc
      go_wp2_with fail
      refine (hD _).mono ?_; rintro e w2 ⟨rfl, k2⟩
      clear hD d0 d1 d2 d3 d4
      go_wp2
      go_ret2
      exact ⟨B, rfl, Sm.refl B, by rw [HO3.out]; exact ⟨T, x1.kp k2, ((kW.sp _).trans (s1.mono (fun x hx => by simp [hx]))).trans (k2.sp _), Nw.refl _ _⟩⟩
  obtain ⟨hc0, hc1⟩ := hc
  clear O2
  have q0 : ¬ c < 0 := by omega
  have q1 : ¬ n - 2 ≤ c := by omega
  cases eg : G.contains c with
  | false =>
    obtain ⟨rfl, rfl, o3⟩ := O3 rfl ⟨hc0, hc1⟩ eg
    have HO3 := hid o3
    clear O3 O4 hL HCL o3
    go_enter Tryz.func26, Tryz.ntmps26
    go_wp2_with fail
    refine (hG _ kW).mono ?_; rintro e w1 ⟨v, rfl, i1, x1, s1⟩
    have lc1 := lc.sp s1 HnT.out
    have hlc1 := hid lc1
    obtain ⟨d0, d1, d2, d3, d4⟩ := lc1
    clear hG lc
    go_wp2_with fail
    refine (hD _).mono ?_; rintro e w2 ⟨rfl, k2⟩
    clear hD d0 d1 d2 d3 d4
    have x2 := x1.kp k2
    have s2 := s1.trans (k2.sp _)
    have i2 := i1.kept k2
    obtain ⟨d0, d1, d2, d3, d4⟩ := hlc1.out.kept k2
    clear x1 s1 i1 k2
    go_wp2_with fail
    refine (hC _ _ v G i2).mono ?_; rintro e w2' ⟨rfl, rfl⟩
    rw [eg]
    clear hC
    go_wp2_with fail
    refine (hR _ (Sp.kp (HK.out.trans kW) s2 (fun x hx => HNe.out x (by simp [hx]))) x2).mono ?_; rintro e w3 ⟨rfl, z3⟩
    clear hR d0 d1 d2 d3 d4
    go_wp2
    go_ret2
    exact ⟨_, rfl, sm_re _ _ _ _ _, by rw [HO3.out]; exact Rz.trans2 (w := w2') ⟨T, x2, (kW.sp _).trans (s2.mono (fun x hx => by simp [hx])), Nw.refl _ _⟩ x2 z3⟩
  | true =>
    obtain ⟨rfl, rfl, o3⟩ := O4 rfl ⟨hc0, hc1⟩ eg
    have HO3 := hid o3
    clear O3 O4 hR o3
    go_enter Tryz.func26, Tryz.ntmps26
    go_wp2_with fail
    refine (hG _ kW).mono ?_; rintro e w1 ⟨v, rfl, i1, x1, s1⟩
    have lc1 := lc.sp s1 HnT.out
    have hlc1 := hid lc1
    obtain ⟨d0, d1, d2, d3, d4⟩ := lc1
    clear hG lc
    go_wp2_with fail
    refine (hD _).mono ?_; rintro e w2 ⟨rfl, k2⟩
    clear hD d0 d1 d2 d3 d4
    have x2 := x1.kp k2
    have s2 := s1.trans (k2.sp _)
    have i2 := i1.kept k2
    obtain ⟨d0, d1, d2, d3, d4⟩ := hlc1.out.kept k2
    clear x1 s1 i1 k2
    go_wp2_with fail
    refine (hC _ _ v G i2).mono ?_; rintro e w2' ⟨rfl, rfl⟩
    rw [eg]
    clear hC
    have S2 : Sp (f :: g :: T) w w2' := (kW.sp _).trans (s2.mono (fun x hx => by simp [hx]))
    go_wp2_with fail
    refine (hL _ (Sp.kp (HK.out.trans kW) s2 (fun x hx => HNe.out x (by simp [hx]))) x2 S2).mono ?_; rintro e w3 ⟨cv, gv, B', rfl, q3, j3, sm3, z3⟩
    have HZ3 : Hid (Rz w0 w w3 r b f g T B' (ldN B ⟨n, s, ep, sts, mks⟩ t cnt)) := Rz.trans2 (w := w2') ⟨T, x2, S2, Nw.refl _ _⟩ x2 z3
    obtain ⟨ga, gk, gm, hgv⟩ : ∃ a k m, gv = .slice a m k := by obtain ⟨a, k, e⟩ := j3.slice; exact ⟨a, k, _, e⟩
    clear hL d0 d1 d2 d3 d4 j3 x2 s2 S2 z3 i2 hlc1
    subst hgv
    obtain ⟨E, eE⟩ : ∃ E, E = ldE B ⟨n, s, ep, sts, mks⟩ t := ⟨_, rfl⟩
    rw [← eE]
    by_cases hE : E = 0
    · have hlen := HCL trivial (by rw [← eE]; exact hE)
      obtain ⟨ca, cb, co, cp, hcv, l1, l2, l3, l4⟩ := q3.parts
      subst hcv
      obtain rfl := l3 (by rw [hlen]; omega)
      have hcl := l4 c.toNat (by rw [hlen]; omega)
      obtain ⟨C, rfl⟩ : ∃ C : Nat, c = C := ⟨c.toNat, by omega⟩
      rw [Int.toNat_natCast] at hcl
      have HEE : Hid (ldE B ⟨n, s, ep, sts, mks⟩ t = E) := eE.symm
      rw [hlen] at l1 ⊢
      obtain ⟨M, hM⟩ : ∃ M : Nat, n = M := ⟨n.toNat, by omega⟩
      subst hM
      rw [Int.toNat_natCast] at l1 ⊢
      have hCM : C < M := by omega
      have hcl2 : (ldC B ⟨M, s, ep, sts, mks⟩ t).getD C noS = (ldC B ⟨M, s, ep, sts, mks⟩ t).getD C noS := rfl
      obtain ⟨XX, eXX⟩ : ∃ X, X = (ldC B ⟨M, s, ep, sts, mks⟩ t).getD C noS := ⟨_, rfl⟩
      rw [← eXX] at hcl
      have HXX := hid eXX
      have l2' : cp ≤ 9223372036854775807 := by unfold maxLen at l2; omega
      have HS3 := hid sm3
      have hcb : cb < w3.heap.size := World.block_lt_of_cell? _ _ hcl
      obtain ⟨kd, ekd⟩ : ∃ k, k = ldK B ⟨M, s, ep, sts, mks⟩ t := ⟨_, rfl⟩
      obtain ⟨td, etd⟩ : ∃ k, k = ldT B ⟨M, s, ep, sts, mks⟩ t := ⟨_, rfl⟩
      rw [← ekd, ← etd]
      clear eE hlen l3 l4 eXX HCL sm3 q3 hcl2 ekd etd l2 kW
      subst hE
      go_wp2
      go_ret2
      exact ⟨B', by rw [HEE.out, Int.toNat_natCast, ← HXX.out]; rfl, HS3.out, by rw [HO3.out]; exact HZ3.out.kp ((Kp.refl _).alloc _)⟩
    · have hC0 : ldC B ⟨n, s, ep, sts, mks⟩ t = [] := (ld_no (by rw [← eE]; exact hE)).1
      have HEE : Hid (ldE B ⟨n, s, ep, sts, mks⟩ t = E) := eE.symm
      have HXX : Hid ((ldC B ⟨n, s, ep, sts, mks⟩ t).getD c.toNat noS = noS) := by show (ldC B _ t).getD _ _ = _; rw [hC0]; rfl
      obtain ⟨ca, ck, cm, hcv⟩ : ∃ a k m, cv = .slice a m k := by obtain ⟨a, k, e, _⟩ := q3.slice; exact ⟨a, k, _, e⟩
      have HS3 := hid sm3
      obtain ⟨kd, ekd⟩ : ∃ k, k = ldK B ⟨n, s, ep, sts, mks⟩ t := ⟨_, rfl⟩
      obtain ⟨td, etd⟩ : ∃ k, k = ldT B ⟨n, s, ep, sts, mks⟩ t := ⟨_, rfl⟩
      rw [← ekd, ← etd]
      clear eE hC0 HCL sm3 q3 ekd etd kW
      subst hcv
      go_wp2
      go_ret2
      exact ⟨B', by rw [HEE.out, HXX.out]; rfl, HS3.out, by rw [HO3.out]; exact HZ3.out.kp ((Kp.refl _).alloc _)⟩

end Go.Proofs.YtonooelffokfkaaGreatDoor

namespace Go.Proofs.YtonooelffokfkaaGreatDoor
open Go.RowKit Plain
set_option linter.unusedVariables false

def wlA (B : BS) (n t : Int) (N : Nat) : List ByteArray := roK B n t [] N N
def wlF (A : List ByteArray) (N : Nat) : Bool := fitsB (A.take (N - 2)) (A.getD (N - 2) noS) (A.getD (N - 2 + 1) noS)
def wlB (B : BS) (L : LB) (t : Int) : Bool := if lsE L t = 0 then (if ldG B L t = [] then (if roE B L.n t [] L.n.toNat = 0 then wlF (wlA B L.n t L.n.toNat) L.n.toNat else false) else false) else false
theorem wl_1 {B : BS} {L : LB} {t : Int} (h : lsE L t ≠ 0) : wlB B L t = false := if_neg h
theorem wl_2 {B : BS} {L : LB} {t : Int} (h : lsE L t = 0) (h2 : ldG B L t ≠ []) : wlB B L t = false := (if_pos h).trans (if_neg h2)
theorem wl_3 {B : BS} {L : LB} {t : Int} (h : lsE L t = 0) (h2 : ldG B L t = []) (h3 : roE B L.n t [] L.n.toNat ≠ 0) : wlB B L t = false := (if_pos h).trans ((if_pos h2).trans (if_neg h3))
theorem wl_4 {B : BS} {L : LB} {t : Int} (h : lsE L t = 0) (h2 : ldG B L t = []) (h3 : roE B L.n t [] L.n.toNat = 0) : wlB B L t = wlF (wlA B L.n t L.n.toNat) L.n.toNat := (if_pos h).trans ((if_pos h2).trans (if_pos h3))

set_option maxRecDepth 100000 in
set_option maxHeartbeats 2000000 in
theorem whole_any {w0 w : World} {r b f g : Nat} {T : List Nat} {B : BS} {cnt : Nat → Int} (h : RdX w0 w r b f g T B cnt) (K : Kp w0 w) (hT : Tab w0) (L : LB) (sv mv : Value) (t : Int) (h1 : ∀ w', Sp (f :: g :: T) w w' → Nl w' sv L.sts ∧ Nl w' mv L.mks) : Calls Tryz.prog 33 #[.pointer (some ⟨r, 0, none⟩), lV L.n L.s L.ep sv mv, .int .i64 t] w fun e w' => ∃ B', e = .returned (.bool (wlB B L t)) ∧ Sm B B' ∧ Rz w0 w w' r b f g T B' cnt := by
  have hG := fun w' (k : Kp w w') => gone_any (h.kp k) (K.trans k) hT L sv mv t (fun w'' k' => h1 w'' ((k.sp _).trans k'))
  have hD := fun w' => data_any L.n L.s w'
  have hO := fun w' (k : Kp w0 w') (x : RdX w0 w' r b f g T B cnt) (N : Nat) (hN : L.n = N) (hgg : gg L.n L.s = true) (htt : 0 ≤ t ∧ t < L.s) gv G (hi : IntsIn w' gv G) => others_any x k N L.s L.ep sv mv t (by rw [← hN]; exact hgg) htt gv G hi
  have hF := fun v l w' p q (hs : ∀ i, i < l.length → (l.getD i noS).size ≤ maxLen) (hi : StrsIn w' v l) => fits_any v l hs p q w' hi
  have HX := hid h
  have HK := hid K
  have HNw : Hid (∀ x, x ∈ f :: g :: T → x < w.heap.size) := h.low
  have HNe : Hid (∀ x, x ∈ f :: g :: T → w0.heap.size ≤ x) := h.new
  clear h K hT h1
  have W1 := @wl_1 B L t
  have W2 := @wl_2 B L t
  have W3 := @wl_3 B L t
  have W4 := @wl_4 B L t
  have hzz := @ls_zero L t
  obtain ⟨X, eX⟩ : ∃ X, X = wlB B L t := ⟨_, rfl⟩
  rw [← eX] at W1 W2 W3 W4
  rw [← eX]
  clear eX
  obtain ⟨n, s, ep, sts, mks⟩ := L
  simp only at *
  obtain ⟨G, eG⟩ : ∃ G, G = ldG B ⟨n, s, ep, sts, mks⟩ t := ⟨_, rfl⟩
  have eG' : loL ⟨n, s, ep, sts, mks⟩ (ddL B) t = G := eG.symm
  rw [eG'] at hG
  rw [← eG] at W2 W3 W4
  clear eG eG'
  obtain ⟨E, eE⟩ : ∃ E, E = lsE ⟨n, s, ep, sts, mks⟩ t := ⟨_, rfl⟩
  rw [← eE] at hG W1 W2 W3 W4 hzz
  clear eE
  unfold lV at hG hO ⊢
  unfold gV at hD
  have kW : Kp w (w.alloc (.cells #[.int .i64 n, .int .i64 s, .int .i64 ep, sv, mv] 30)) := (Kp.refl w).alloc _
  have lc := Lc.new w n s ep sv mv 30
  have HnT : Hid (w.heap.size ∉ f :: g :: T) := fun ht => by have := HNw.out _ ht; omega
  by_cases hz : E = 0
  case neg =>
    obtain rfl := W1 hz
    clear W1 W2 W3 W4 hD hO hF hzz
    go_enter Tryz.func33, Tryz.ntmps33
    go_wp2_with fail
    refine (hG _ kW).mono ?_; rintro e w1 ⟨v, rfl, i1, x1, s1⟩
    clear hG
    go_wp2
    go_ret
    exact ⟨B, rfl, Sm.refl B, ⟨T, x1, (kW.sp _).trans (s1.mono (fun x hx => by simp [hx])), Nw.refl _ _⟩⟩
  subst hz
  obtain ⟨z1, z2, z3, z4⟩ := hzz rfl
  obtain ⟨g1, g2, g3, g4⟩ := (gg_iff _ _).1 z2
  rw [show dI n s = n - 2 from if_pos z2] at hD
  clear W1 hzz
  by_cases hg : G = []
  case neg =>
    obtain rfl := W2 rfl hg
    have hgl : 0 < G.length := List.length_pos_iff.2 hg
    clear W2 W3 W4 hD hO hF z1 z2 z3 z4
    go_enter Tryz.func33, Tryz.ntmps33
    go_wp2_with fail
    refine (hG _ kW).mono ?_; rintro e w1 ⟨v, rfl, i1, x1, s1⟩
    obtain ⟨ga, gk, hv⟩ := i1.slice
    obtain ⟨m, em⟩ : ∃ m, m = G.length := ⟨_, rfl⟩
    rw [← em] at hv hgl
    subst hv
    have hgl2 : (0 : Int) < (m : Int) := by omega
    clear hG i1 em
    go_wp2
    go_ret
    exact ⟨B, rfl, Sm.refl B, ⟨T, x1, (kW.sp _).trans (s1.mono (fun x hx => by simp [hx])), Nw.refl _ _⟩⟩
  subst hg
  clear W2
  obtain ⟨N, rfl⟩ : ∃ N : Nat, n = N := ⟨n.toNat, by omega⟩
  rw [Int.toNat_natCast] at W3 W4
  have hOO := fun w' k x => hO w' k x N rfl z2 z3 (.slice none 0 0) [] (.empty none 0 (by unfold maxLen; omega))
  clear hO z1 z2 z3 z4
  by_cases hr : roE B N t [] N = 0
  case neg =>
    obtain rfl := W3 rfl rfl hr
    clear W3 W4 hD hF
    obtain ⟨E, eE⟩ : ∃ E, E = roE B N t [] N := ⟨_, rfl⟩
    rw [← eE] at hr hOO
    clear eE
    go_enter Tryz.func33, Tryz.ntmps33
    go_wp2_with fail
    refine (hG _ kW).mono ?_; rintro e w1 ⟨v, rfl, i1, x1, s1⟩
    obtain ⟨ga, gk, hv⟩ := i1.slice
    rw [List.length_nil] at hv
    subst hv
    obtain ⟨d0, d1, d2, d3, d4⟩ := lc.sp s1 (fun ht => HnT.out (by simp [ht]))
    clear hG i1 lc
    go_wp2_with fail
    refine (hOO _ (Sp.kp (HK.out.trans kW) s1 (fun x hx => HNe.out x (by simp [hx]))) x1).mono ?_; rintro e w2 ⟨v2, B2, rfl, q2, sm2, z2⟩
    clear hOO d0 d1 d2 d3 d4 q2
    go_wp2
    go_ret
    exact ⟨B2, rfl, sm2, Rz.trans2 (w := w1) ⟨T, x1, (kW.sp _).trans (s1.mono (fun x hx => by simp [hx])), Nw.refl _ _⟩ x1 z2⟩
  have hX := W4 rfl rfl hr
  rw [hr] at hOO
  clear W3 W4 hr
  have HA : Hid (wlA B N t N = roK B N t [] N N) := rfl
  obtain ⟨A, eA⟩ : ∃ A, A = wlA B N t N := ⟨_, rfl⟩
  rw [← eA] at hX HA
  have HS : Hid (A.length = N ∧ ∀ i, i < N → (A.getD i noS).size ≤ maxLen) := ⟨by rw [HA.out, roK_len], fun i hi => by
    rw [HA.out, roK_at _ _ _ _ _ _ _ hi]
    unfold roC
    split
    · have := rdT_size HX.out.bay (mM N t i) (100 + t)
      unfold maxLen; omega
    · exact Nat.zero_le _⟩
  simp only [← HA.out] at hOO
  have HFX : Hid (X = fitsB (A.take (N - 2)) (A.getD (N - 2) noS) (A.getD (N - 2 + 1) noS)) := hX
  clear eA hX
  obtain ⟨k, rfl⟩ : ∃ k, N = k + 2 := ⟨N - 2, by omega⟩
  rw [show k + 2 - 2 = k by omega] at HFX
  rw [show ((k + 2 : Nat) : Int) - 2 = (k : Int) by omega] at hD
  go_enter Tryz.func33, Tryz.ntmps33
  go_wp2_with fail
  refine (hG _ kW).mono ?_; rintro e w1 ⟨v, rfl, i1, x1, s1⟩
  obtain ⟨ga, gk, hv⟩ := i1.slice
  rw [List.length_nil] at hv
  subst hv
  have hlc1 := hid (lc.sp s1 (fun ht => HnT.out (by simp [ht])))
  obtain ⟨d0, d1, d2, d3, d4⟩ := hlc1.out
  clear hG i1 lc
  go_wp2_with fail
  refine (hOO _ (Sp.kp (HK.out.trans kW) s1 (fun x hx => HNe.out x (by simp [hx]))) x1).mono ?_; rintro e w2 ⟨v2, B2, rfl, q2, sm2, z2⟩
  have HZ2 : Hid (Rz w0 w w2 r b f g T B2 cnt) := Rz.trans2 (w := w1) ⟨T, x1, (kW.sp _).trans (s1.mono (fun x hx => by simp [hx])), Nw.refl _ _⟩ x1 z2
  have HSM := hid sm2
  obtain ⟨e0, e1, e2, e3, e4⟩ := hlc1.out.sp z2.sp HnT.out
  have HQ2 := hid (q2 trivial)
  clear hOO d0 d1 d2 d3 d4 q2 z2 sm2 x1 s1 hlc1 kW
  go_wp2_with fail
  refine (hD _).mono ?_; rintro e w3 ⟨rfl, k3⟩
  have HQ3 : Hid (StrsIn w3 v2 A) := HQ2.out.kept k3
  have HZ3 : Hid (Rz w0 w w3 r b f g T B2 cnt) := HZ2.out.kp k3
  obtain ⟨a, cb, co, cp, hv2, l1, l2, l3, l4⟩ := HQ3.out.parts
  obtain rfl := l3 (by rw [HS.out.1]; omega)
  rw [HS.out.1] at hv2 l1 l4
  subst hv2
  have p0 := l4 k (by omega)
  have p1 := l4 (k + 1) (by omega)
  have l2' : cp ≤ 9223372036854775807 := by unfold maxLen at l2; omega
  have hcut := HQ3.out.cut k
  have HC : Hid (∀ w', Kp w3 w' → StrsIn w' (.slice (some ⟨cb, co, none⟩) k cp) (A.take k)) := fun w' q => (hcut.2.2.2 (by omega)).kept q
  have hFF := fun w' (q : Kp w3 w') => hF _ _ w' (A.getD k noS) (A.getD (k + 1) noS) (fun i hi => by
    rw [List.length_take] at hi
    rw [getD_take (by omega)]
    exact HS.out.2 i (by omega)) (HC.out w' q)
  clear hD e0 e1 e2 e3 e4 hF k3 HQ2 HZ2 hcut l3 l4
  obtain ⟨P0, eP0⟩ : ∃ P, P = A.getD k noS := ⟨_, rfl⟩
  obtain ⟨P1, eP1⟩ : ∃ P, P = A.getD (k + 1) noS := ⟨_, rfl⟩
  rw [← eP0, ← eP1] at hFF HFX
  rw [← eP0] at p0
  rw [← eP1] at p1
  clear eP0 eP1
  have kd : Kp w3 w3.drew := (Kp.refl w3).drew
  have f1 : (0 : Int) ≤ (k : Int) + 1 := by omega
  have f2 : (k : Int) + 1 < ((k + 2 : Nat) : Int) := by omega
  have f3 : ((k : Int) + 1).toNat = k + 1 := by omega
  have f4 : (k : Int) < ((k + 2 : Nat) : Int) := by omega
  have f5 : ¬ ((k : Int) + 1 < 0) := by omega
  have f6 : k + 1 < k + 2 := by omega
  have f7 : k < k + 2 := by omega
  have f8 : ¬ (((k + 2 : Nat) : Int) ≤ (k : Int) + 1) := by omega
  have f9 : k ≤ cp := by omega
  have t1 : (k : Int) < (k : Int) + 2 := by omega
  have t2 : (k : Int) + 1 < (k : Int) + 2 := by omega
  have t3 : (0 : Int) ≤ (k : Int) := by omega
  have t4 : (k : Int) ≤ 30 := by omega
  have t5 : IntKind.i64.wrap ((k : Int) + 1) = (k : Int) + 1 := by rw [IntKind.wrap_i64]; omega
  clear g1 g2
  go_wp2_with fail
  go_region_held3 (fun V => V.cell? ⟨cb, co + k, none⟩ = some (.string P0) ∧ V.cell? ⟨cb, co + (k + 1), none⟩ = some (.string P1)) (first | exact ⟨kd.held p0, kd.held p1⟩ | exact ⟨p0, p1⟩ | exact ⟨k4.held (kd.held p0), k4.held (kd.held p1)⟩ | go_keep) (first
    | (go_at_call 72; refine (hFF _ kd).mono ?_; rintro e w4 ⟨rfl, k4⟩))
  go_wp2
  go_ret
  exact ⟨B2, by rw [HFX.out]; rfl, HSM.out, HZ3.out.kp (kd.trans k4)⟩

end Go.Proofs.YtonooelffokfkaaGreatDoor
