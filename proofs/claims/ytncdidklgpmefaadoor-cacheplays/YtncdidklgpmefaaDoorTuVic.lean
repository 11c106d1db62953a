/-
  Contracts of a turn's Order and Victim. Conditions: that the object lies in memory as TX says, as turns come.
-/
import Derived.Test.YtncdidklgpmefaaDoorTuOrd
namespace Go.Proofs.YtncdidklgpmefaaDoor
open Go.RowKit Plain
set_option linter.unusedVariables false

set_option maxRecDepth 100000 in
set_option maxHeartbeats 2000000 in
theorem order_any {w0 w : World} {a : Nat} {T : List Nat} {S : TS} (h : TX w0 w a T S) (hg : Gd S) : Calls Tryd.prog 78 #[.pointer (some ⟨a, 0, none⟩)] w fun e w' => ∃ v, e = .returned v ∧ OwnI w' w.heap.size v (S.P ++ S.D) ∧ Kp w w' := by
  obtain ⟨mb, vp, vd, rfl, h⟩ := h
  have h1 := hg.len
  have h2 := hg.m2
  obtain ⟨c0, c1, _⟩ := h.cells
  have HC : Hid (∀ W g, Kp w W → W.cell? ⟨g, 0, none⟩ = some vp → W.cell? ⟨g, 1, none⟩ = some vd → Calls Tryd.prog 80 #[.slice (some ⟨g, 0, none⟩) 2 2] W fun e w' => ∃ u, e = .returned u ∧ OwnI w' W.heap.size u (S.P ++ S.D) ∧ Kp W w') :=
    fun W g k e0 e1 => concat_any g vp vd S.P S.D W (h.p.ints.kept k) (h.d.ints.kept k) (by omega) (by omega) e0 e1
  obtain ⟨pp, cp, rfl⟩ := h.p.shape
  obtain ⟨pd, cd, rfl⟩ := h.d.shape
  obtain ⟨n, hn⟩ : ∃ n, n = S.P.length := ⟨_, rfl⟩
  obtain ⟨m, hm⟩ : ∃ n, n = S.D.length := ⟨_, rfl⟩
  rw [← hn] at c0 HC
  rw [← hm] at c1 HC
  clear h hg h1 h2 hn hm
  go_enter Tryd.func78, Tryd.ntmps78
  go_wp2_with fail
  go_region_with (go_at_call 80; refine (HC.out _ _ ((Kp.refl w).alloc _).drew (by show (w.alloc _).cell? _ = _; rw [World.cell?_alloc_at _ _ _ _ rfl]; rfl) (by show (w.alloc _).cell? _ = _; rw [World.cell?_alloc_at _ _ _ _ rfl]; rfl)).mono ?_; rintro e w4 ⟨u, rfl, ho, k4⟩)
  all_goals
    have HO : Hid (OwnI w4 w.heap.size u (S.P ++ S.D) ∧ Kp w w4) := ⟨ho.mono (by simp), ((Kp.refl w).alloc _).drew.trans k4⟩
    clear ho k4
    go_wp2
    go_ret
    exact ⟨_, rfl, HO.out.1, HO.out.2⟩
theorem vc_hit {S : TS} {A B : List Int} {k : Int} (e : S.P ++ S.D = A ++ k :: B) (hA : ∀ x ∈ A, S.K x = true) (hk : S.K k = false) : vcO S = some k := by
  unfold vcO
  rw [e, List.find?_append, List.find?_eq_none.2 (fun x hx => by simp [hA x hx]), List.find?_cons]
  simp [hk]
theorem vc_miss {S : TS} (h : ∀ x ∈ S.P ++ S.D, S.K x = true) : vcO S = none := by
  unfold vcO
  exact List.find?_eq_none.2 (fun x hx => by simp [h x hx])
set_option maxRecDepth 100000 in
set_option maxHeartbeats 2000000 in
theorem victim_any {w0 w : World} {a : Nat} {T : List Nat} {S : TS} (h : TX w0 w a T S) (hg : Gd S) : Calls Tryd.prog 68 #[.pointer (some ⟨a, 0, none⟩)] w fun e w' => e = .returned (.tuple #[.int .i64 (vcK S), .bool (vcO S).isSome]) ∧ Kp w w' := by
  have hO := order_any h hg
  have HH := hid (And.intro h hg)
  have h1 := hg.len
  have h2 := hg.m2
  have hl : (S.P ++ S.D).length ≤ 64 := by rw [List.length_append]; omega
  clear h hg h1 h2
  go_enter Tryd.func68, Tryd.ntmps68
  go_wp2_with fail
  refine hO.mono ?_; rintro e w1 ⟨v, rfl, ho, k1⟩
  have hI := ho.ints
  obtain ⟨p, g, cap, rfl, i1, i2, i3, _, i5⟩ := hI
  obtain ⟨l, hL⟩ : ∃ l, l = S.P ++ S.D := ⟨_, rfl⟩
  rw [← hL] at i1 i3 i5 hl ⊢
  obtain ⟨n, hn⟩ : ∃ n, n = l.length := ⟨_, rfl⟩
  rw [← hn] at i1 i3 i5 hl ⊢
  have HC := hid i5
  have HP := hid i3
  have HN := hid (And.intro hn hL)
  have K1 := hid k1
  clear hO ho k1 i3 i5 hn hL
  go_wp2
  go_loopw [5, 6, 7, 11] (fun _ _ _ q wr => ∃ i : Nat, q = .int .i64 i ∧ i ≤ n ∧ Hid (∀ x ∈ l.take i, S.K x = true) ∧ Hid (Kp w1 wr)) (fun _ _ _ q _ => n - (intOf q).toNat)
  case atStart => exact ⟨0, rfl, by omega, (by simp : ∀ x ∈ l.take 0, S.K x = true), Kp.refl w1⟩
  case round =>
    obtain ⟨i, rfl, hi, HI, HK⟩ := hrel
    rename World => wr
    by_cases hin : i < n
    · obtain rfl := HP.out (by omega)
      have d0 := HK.out.held (HC.out i hin)
      have hil : i < l.length := by have := HN.out.1; omega
      have hx := HH.out.1.kept (K1.out.trans HK.out)
      obtain ⟨mb, vp, vd, _, hx⟩ := hx
      obtain ⟨_, _, _, _, c4⟩ := hx.cells
      obtain ⟨y, hy⟩ : ∃ y, y = l.getD i 0 := ⟨_, rfl⟩
      rw [← hy] at d0
      have hym : y ∈ S.P ++ S.D := by rw [← HN.out.2, at_split hil, ← hy]; simp
      have hlk := hx.k.look (HH.out.2.ok y hym)
      have HY := hid hy
      have hi3 : (i : Int) < (n : Int) := by omega
      clear hy hx hym
      cases hb : S.K y with
      | false =>
        rw [hb] at hlk
        have HB := hid hb
        clear hb
        go_wp2
        go_ret2
        have hv : vcO S = some y := vc_hit (A := l.take i) (B := l.drop (i + 1)) (by rw [HY.out, ← HN.out.2]; exact at_split hil) HI.out HB.out
        refine ⟨?_, (K1.out.trans HK.out).trans ((Kp.refl wr).alloc _)⟩
        unfold vcK
        rw [hv]
        rfl
      | true =>
        rw [hb] at hlk
        have HI2 : Hid (∀ x ∈ l.take (i + 1), S.K x = true) := by
          show ∀ x ∈ l.take (i + 1), S.K x = true
          intro x hx
          rw [take_next hil] at hx
          rcases List.mem_append.1 hx with hx | hx
          · exact HI.out x hx
          · rw [List.mem_singleton] at hx
            rw [hx, ← HY.out]
            exact hb
        have HK2 : Hid (Kp w1 (wr.alloc (.cells #[] 105))) := HK.out.trans ((Kp.refl wr).alloc _)
        clear hb HI HK
        go_wp2
        go_roundw
        case rel => exact ⟨i + 1, by go_num, by omega, HI2, HK2⟩
        case measure => simp [intOf]; omega
    · obtain rfl : i = n := by omega
      have hv : vcO S = none := vc_miss (fun x hx => HI.out x (by rw [List.take_of_length_le (by have := HN.out.1; omega), HN.out.2]; exact hx))
      have HV := hid hv
      clear hv HI
      go_wp2
      go_ret2
      refine ⟨?_, K1.out.trans HK.out⟩
      unfold vcK
      rw [HV.out]
      rfl

end Go.Proofs.YtncdidklgpmefaaDoor
