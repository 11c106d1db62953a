/-
  Contract of the reader's Column. Conditions: that the reader and the label's lists lie in memory.
-/
import Derived.Test.YtonooelffokfkaaGreatDoorZRwRefV
namespace Go.Proofs.YtonooelffokfkaaGreatDoor
open Go.RowKit Plain
set_option linter.unusedVariables false

theorem co_yes {B : BS} {L : LB} {t c : Int} (h : lsE L t = 0) (h3 : (ldG B L t).contains c = true) : coE B L t c = 20 ∧ coT B L t c = noS := by
  have hm := List.contains_iff_mem.1 h3
  obtain ⟨_, z2, _, _⟩ := ls_zero h
  obtain ⟨g1, g2, _, _⟩ := (gg_iff _ _).1 z2
  have e : ldG B L t = loN L (ddL B) t L.n.toNat := by unfold ldG loL; rw [if_pos h]
  rw [e] at hm
  have := (loN_mem L (ddL B) t L.n.toNat c).1 hm
  exact co_4 h ⟨by omega, by omega⟩ h3
theorem co_no {B : BS} {L : LB} {t c : Int} (h : lsE L t = 0) (h3 : (ldG B L t).contains c = false) : coE B L t c = reE B L.n L.s t c ∧ coT B L t c = reT B L.n L.s t c := by
  obtain ⟨_, z2, htr, _⟩ := ls_zero h
  unfold reE reT
  by_cases hc : 0 ≤ c ∧ c < L.n
  · rw [mem_ok z2 htr hc, if_pos rfl, if_pos rfl]
    exact co_3 h hc h3
  · rw [mem_no z2 hc]
    exact co_2 h hc

set_option maxRecDepth 100000 in
set_option maxHeartbeats 2000000 in
theorem col_any {w0 w : World} {r b f g : Nat} {T : List Nat} {B : BS} {cnt : Nat → Int} (h : RdX w0 w r b f g T B cnt) (K : Kp w0 w) (hT : Tab w0) (L : LB) (sv mv : Value) (t c : Int) (h1 : ∀ w', Sp (f :: g :: T) w w' → Nl w' sv L.sts ∧ Nl w' mv L.mks) : Calls Tryz.prog 30 #[.pointer (some ⟨r, 0, none⟩), lV L.n L.s L.ep sv mv, .int .i64 t, .int .i64 c] w fun e w' => ∃ B', e = .returned (.tuple #[.string (coT B L t c), .int .i64 (coE B L t c)]) ∧ Sm B B' ∧ Rz w0 w w' r b f g T B' cnt := by
  have hG := fun w' (k : Kp w w') => gone_any (h.kp k) (K.trans k) hT L sv mv t (fun w'' k' => h1 w'' ((k.sp _).trans k'))
  have hC := fun w' Bd v l (hi : IntsAt w' Bd v l) => contains_any v l c Bd w' hi
  have hR := fun w' (k : Kp w0 w') (x : RdX w0 w' r b f g T B cnt) => rrd_any x k L.n L.s L.ep sv mv t c
  have HK := hid K
  have HNw : Hid (∀ x, x ∈ f :: g :: T → x < w.heap.size) := h.low
  have HNe : Hid (∀ x, x ∈ f :: g :: T → w0.heap.size ≤ x) := h.new
  clear h K hT h1
  have O1 := @co_1 B L t c
  have O3 := @co_no B L t c
  have O4 := @co_yes B L t c
  obtain ⟨X, eX⟩ : ∃ X, X = coE B L t c := ⟨_, rfl⟩
  obtain ⟨Y, eY⟩ : ∃ X, X = coT B L t c := ⟨_, rfl⟩
  rw [← eX, ← eY] at O1 O3 O4
  rw [← eX, ← eY]
  clear eX eY
  obtain ⟨n, s, ep, sts, mks⟩ := L
  simp only at *
  obtain ⟨G, eG⟩ : ∃ G, G = ldG B ⟨n, s, ep, sts, mks⟩ t := ⟨_, rfl⟩
  have eG' : loL ⟨n, s, ep, sts, mks⟩ (ddL B) t = G := eG.symm
  rw [eG'] at hG
  rw [← eG] at O3 O4
  clear eG eG'
  obtain ⟨E, eE⟩ : ∃ E, E = lsE ⟨n, s, ep, sts, mks⟩ t := ⟨_, rfl⟩
  rw [← eE] at hG O1 O3 O4
  clear eE
  unfold lV at hG hR ⊢
  have kW : Kp w (w.alloc (.cells #[.int .i64 n, .int .i64 s, .int .i64 ep, sv, mv] 30)) := (Kp.refl w).alloc _
  have lc := Lc.new w n s ep sv mv 30
  have HnT : Hid (w.heap.size ∉ T) := fun ht => by have := HNw.out _ (show w.heap.size ∈ f :: g :: T by simp [ht]); omega
  by_cases hz : E = 0
  case neg =>
    obtain ⟨rfl, rfl⟩ := O1 hz
    clear O1 O3 O4 hC hR
    go_enter Tryz.func30, Tryz.ntmps30
    go_wp2_with fail
    refine (hG _ kW).mono ?_; rintro e w1 ⟨v, rfl, i1, x1, s1⟩
    clear hG
    go_wp2
    go_ret2
    exact ⟨B, rfl, Sm.refl B, ⟨T, x1, (kW.sp _).trans (s1.mono (fun x hx => by simp [hx])), Nw.refl _ _⟩⟩
  subst hz
  clear O1
  cases eg : G.contains c with
  | false =>
    obtain ⟨rfl, rfl⟩ := O3 rfl eg
    clear O3 O4
    go_enter Tryz.func30, Tryz.ntmps30
    go_wp2_with fail
    refine (hG _ kW).mono ?_; rintro e w1 ⟨v, rfl, i1, x1, s1⟩
    obtain ⟨d0, d1, d2, d3, d4⟩ := lc.sp s1 HnT.out
    clear hG lc
    go_wp2_with fail
    refine (hC _ _ v G i1).mono ?_; rintro e w2' ⟨rfl, rfl⟩
    rw [eg]
    clear hC
    go_wp2_with fail
    refine (hR _ (Sp.kp (HK.out.trans kW) s1 (fun x hx => HNe.out x (by simp [hx]))) x1).mono ?_; rintro e w3 ⟨rfl, z3⟩
    clear hR d0 d1 d2 d3 d4
    go_wp2
    go_ret2
    exact ⟨_, rfl, sm_re _ _ _ _ _, Rz.trans2 (w := w2') ⟨T, x1, (kW.sp _).trans (s1.mono (fun x hx => by simp [hx])), Nw.refl _ _⟩ x1 z3⟩
  | true =>
    obtain ⟨rfl, rfl⟩ := O4 rfl eg
    clear O3 O4 hR
    go_enter Tryz.func30, Tryz.ntmps30
    go_wp2_with fail
    refine (hG _ kW).mono ?_; rintro e w1 ⟨v, rfl, i1, x1, s1⟩
    clear hG lc
    go_wp2_with fail
    refine (hC _ _ v G i1).mono ?_; rintro e w2' ⟨rfl, rfl⟩
    rw [eg]
    clear hC
    go_wp2
    go_ret2
    exact ⟨B, rfl, Sm.refl B, ⟨T, x1, (kW.sp _).trans (s1.mono (fun x hx => by simp [hx])), Nw.refl _ _⟩⟩

end Go.Proofs.YtonooelffokfkaaGreatDoor
