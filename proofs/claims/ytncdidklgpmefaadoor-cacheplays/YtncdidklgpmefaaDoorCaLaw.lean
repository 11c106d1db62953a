/-
  What a cache's calls make of what is held of a stripe. Plain facts; and the contract of the laws' wakes.
-/
import Derived.Test.YtncdidklgpmefaaDoorCaArgs
import Derived.Deep.QuietTactic
import Derived.BigQuiet
import Derived.Deep.RegionWith
namespace Go.Proofs.YtncdidklgpmefaaDoor
open Go.RowKit Plain
set_option linter.unusedVariables false

theorem upS_at (f : Int → ByteArray) (j : Int) (s : ByteArray) : upS f j s j = s := if_pos rfl
theorem upS_off (f : Int → ByteArray) {j i : Int} (s : ByteArray) (e : i ≠ j) : upS f j s i = f i := if_neg e
theorem us_of_in {C : CS} {k : Int} (h : inT C.S k = true) : usE C k = 0 := by unfold usE; rw [if_pos h]
theorem pl_H {C : CS} {k : Int} (hk : inT C.S k = false) : (plC C).H k = C.H k := by
  unfold plC
  split
  · split
    · rfl
    · rename_i v hv
      exact upH_off _ _ (fun e => by rw [e] at hk; have := in_iff.2 (vc_in hv).1; rw [this] at hk; cases hk)
  · rfl
theorem us_H {C : CS} (k : Int) : (usC C k).H k = C.H k := by
  unfold usC
  cases hk : inT C.S k with
  | true => rfl
  | false =>
    rw [if_neg (by decide)]
    split
    · exact pl_H hk
    · rfl
theorem pl_oth {C : CS} (hi : Ci C) (i : Int) : (plC C).H i = C.H i ∨ ((plC C).H i = hd0 ∧ dyH (C.H i) = false) := by
  unfold plC
  split
  · split
    · exact .inl rfl
    · rename_i v hv
      by_cases e : i = v
      · refine .inr ⟨by rw [e]; exact upH_at _ _ _, ?_⟩
        rw [e, ← hi.pin]
        exact (vc_in hv).2
      · exact .inl (upH_off _ _ e)
  · exact .inl rfl
theorem us_oth {C : CS} (hi : Ci C) (k i : Int) : (usC C k).H i = C.H i ∨ ((usC C k).H i = hd0 ∧ dyH (C.H i) = false) := by
  unfold usC
  cases hk : inT C.S k with
  | true => exact .inl rfl
  | false =>
    rw [if_neg (by decide)]
    split
    · exact pl_oth hi i
    · exact .inl rfl
theorem fl_H {C : CS} {k j : Int} {s : ByteArray} (h : ptE C k j s.size = 0) : (flC C k j s).H k = flH (C.H k) j s := by
  unfold flC
  rw [if_pos h]
  show upH (usC C k).H k _ k = _
  rw [upH_at, us_H]
theorem pt_H {C : CS} {k j : Int} {s : ByteArray} (h : ptE C k j s.size = 0) : (ptC C k j s).H k = ptH (C.H k) j s := by
  unfold ptC
  rw [if_pos h]
  show upH (usC C k).H k _ k = _
  rw [upH_at, us_H]
theorem fl_oth {C : CS} (hi : Ci C) {k i : Int} (j : Int) (s : ByteArray) (e : i ≠ k) : (flC C k j s).H i = C.H i ∨ ((flC C k j s).H i = hd0 ∧ dyH (C.H i) = false) := by
  unfold flC
  split
  · show upH (usC C k).H k _ i = _ ∨ upH (usC C k).H k _ i = _ ∧ _
    rw [upH_off _ _ e]
    exact us_oth hi k i
  · exact .inl rfl
theorem pt_oth {C : CS} (hi : Ci C) {k i : Int} (j : Int) (s : ByteArray) (e : i ≠ k) : (ptC C k j s).H i = C.H i ∨ ((ptC C k j s).H i = hd0 ∧ dyH (C.H i) = false) := by
  unfold ptC
  split
  · show upH (usC C k).H k _ i = _ ∨ upH (usC C k).H k _ i = _ ∧ _
    rw [upH_off _ _ e]
    exact us_oth hi k i
  · exact .inl rfl
theorem fl_no {C : CS} {k j : Int} {s : ByteArray} (h : ptE C k j s.size ≠ 0) : flC C k j s = C := by unfold flC; rw [if_neg h]
theorem pt_no {C : CS} {k j : Int} {s : ByteArray} (h : ptE C k j s.size ≠ 0) : ptC C k j s = C := by unfold ptC; rw [if_neg h]
theorem fl_in {C : CS} (hg : Gd C.S) {k j : Int} {s : ByteArray} (h : ptE C k j s.size = 0) : inT (flC C k j s).S k = true := by
  unfold flC
  rw [if_pos h]
  exact us_in hg (pt_ok.1 h).2
theorem pt_in {C : CS} (hg : Gd C.S) {k j : Int} {s : ByteArray} (h : ptE C k j s.size = 0) : inT (ptC C k j s).S k = true := by
  unfold ptC
  rw [if_pos h]
  refine in_iff.2 ((pn_perm _ _ _).mem_iff.2 ?_)
  exact in_iff.1 (us_in hg (pt_ok.1 h).2)
theorem gt_H (C : CS) (k j : Int) : (gtC C k j).H = C.H := by unfold gtC; split <;> rfl
theorem gt_keys {C : CS} (hg : Gd C.S) (k j : Int) : ((gtC C k j).S.P ++ (gtC C k j).S.D).Perm (C.S.P ++ C.S.D) := by
  unfold gtC
  split
  · exact to_perm hg k
  · exact List.Perm.refl _
theorem gt_in {C : CS} (hg : Gd C.S) (k j i : Int) : inT (gtC C k j).S i = inT C.S i := by
  have hp := gt_keys hg k j
  cases e : inT C.S i with
  | true => exact in_iff.2 (hp.mem_iff.2 (in_iff.1 e))
  | false => exact in_not.2 (fun hm => in_not.1 e (hp.mem_iff.1 hm))
theorem dn_H {C : CS} {k : Int} (h : inT C.S k = true) : (dnC C k).H k = dnH (C.H k) := by unfold dnC; rw [if_pos h]; exact upH_at _ _ _
theorem dn_oth (C : CS) {k i : Int} (e : i ≠ k) : (dnC C k).H i = C.H i := by
  unfold dnC
  split
  · exact upH_off _ _ e
  · rfl
theorem dn_no {C : CS} {k : Int} (h : inT C.S k = false) : dnC C k = C := by unfold dnC; rw [h]; rfl
theorem dp_oth (C : CS) {k i : Int} (e : i ≠ k) : (dpC C k).H i = C.H i := by
  unfold dpC
  split
  · exact upH_off _ _ e
  · rfl
theorem dp_H (C : CS) (k : Int) : (dpC C k).H k = C.H k ∨ ((dpC C k).H k = hd0 ∧ dyH (C.H k) = false) := by
  unfold dpC
  split
  · rename_i h
    unfold dpB at h
    rw [Bool.and_eq_true] at h
    exact .inr ⟨upH_at _ _ _, by simpa using h.2⟩
  · exact .inl rfl
theorem usE_ok {C : CS} {k : Int} (h : (C.S.P.length : Int) + (C.S.D.length : Int) < C.S.M) : usE C k = 0 := by
  unfold usE
  split
  · rfl
  · rw [if_neg (by unfold fulB; simp; omega)]
theorem pt_zero {C : CS} {k j : Int} {n : Nat} (hk : 0 ≤ k ∧ k < 64) (hj : 0 ≤ j ∧ j < C.W) (hn : n = 64) (h : usE C k = 0) : ptE C k j n = 0 := pt_ok.2 ⟨rf_ok.2 ⟨hk, hj, hn⟩, h⟩
theorem no_ne (s : ByteArray) : s.toList.isEmpty = !isS s := by
  rw [ByteArray.toList_eq]
  unfold isS
  cases e : s.data.toList with
  | nil =>
    have : s.size = 0 := by
      have := congrArg List.length e
      simpa using this
    simp [this]
  | cons a l =>
    have : s.size = l.length + 1 := by
      have := congrArg List.length e
      simpa using this
    simp [this]
/-! ### for how many -/
theorem pl_M (C : CS) : (plC C).S.M = C.S.M ∧ (plC C).S.Z = C.S.Z ∧ (plC C).W = C.W := by
  unfold plC
  split
  · split
    · exact ⟨rfl, rfl, rfl⟩
    · rename_i v hv
      refine ⟨(dr_K v (in_iff.2 (vc_in hv).1)).2.1, ?_, rfl⟩
      show (drS C.S v).Z = _
      unfold drS
      split <;> rfl
  · exact ⟨rfl, rfl, rfl⟩
theorem ad_M (S : TS) (k : Int) : (adS S k).M = S.M ∧ (adS S k).Z = S.Z := by
  unfold adS
  split <;> exact ⟨rfl, rfl⟩
theorem us_M (C : CS) (k : Int) : (usC C k).S.M = C.S.M ∧ (usC C k).W = C.W := by
  unfold usC
  split
  · exact ⟨(to_K _ _).2.1, rfl⟩
  · split
    · exact ⟨(ad_M _ _).1.trans (pl_M C).1, (pl_M C).2.2⟩
    · exact ⟨rfl, rfl⟩
theorem pn_M (S : TS) (k : Int) (on : Bool) : (pnS S k on).M = S.M := by unfold pnS; split <;> rfl
theorem dr_M (S : TS) (k : Int) : (drS S k).M = S.M := by unfold drS; split <;> rfl
theorem fl_M (C : CS) (k j : Int) (s : ByteArray) : (flC C k j s).S.M = C.S.M ∧ (flC C k j s).W = C.W := by
  unfold flC
  split
  · exact us_M C k
  · exact ⟨rfl, rfl⟩
theorem pt_M (C : CS) (k j : Int) (s : ByteArray) : (ptC C k j s).S.M = C.S.M ∧ (ptC C k j s).W = C.W := by
  unfold ptC
  split
  · exact ⟨(pn_M _ _ _).trans (us_M C k).1, (us_M C k).2⟩
  · exact ⟨rfl, rfl⟩
theorem gt_M (C : CS) (k j : Int) : (gtC C k j).S.M = C.S.M ∧ (gtC C k j).W = C.W := by
  unfold gtC
  split
  · exact ⟨(to_K _ _).2.1, rfl⟩
  · exact ⟨rfl, rfl⟩
theorem dn_M (C : CS) (k : Int) : (dnC C k).S.M = C.S.M ∧ (dnC C k).W = C.W := by
  unfold dnC
  split
  · exact ⟨pn_M _ _ _, rfl⟩
  · exact ⟨rfl, rfl⟩
theorem dp_M (C : CS) (k : Int) : (dpC C k).S.M = C.S.M ∧ (dpC C k).W = C.W := by
  unfold dpC
  split
  · exact ⟨dr_M _ _, rfl⟩
  · exact ⟨rfl, rfl⟩

/-- told of an earlier world. -/
theorem CB.base {wa w0 w : World} {c mb tb q : Nat} {A : Int → Nat} {C : CS} {X : List Nat} (h : CB w0 w c mb tb A q C X) (k : Kp wa w0) : CB wa w c mb tb A q C X := by
  have hs := k.size
  refine { h with tu := ?_, bc := Nat.le_trans hs h.bc, bm := Nat.le_trans hs h.bm, ba := fun j e => Nat.le_trans hs (h.ba j e) }
  obtain ⟨T, ⟨mb', vp, vd, eT, q1⟩, q2, q3, q4⟩ := h.tu
  exact ⟨T, ⟨mb', vp, vd, eT, ⟨q1.h, q1.p.mono hs, q1.d.mono hs, q1.k, Nat.le_trans hs q1.ba, Nat.le_trans hs q1.bm, q1.am, q1.pa, q1.pm, q1.da, q1.dm, q1.pd, Nat.le_trans hs q1.sz⟩⟩, q2, k.trans q3, q4⟩
theorem Ca.base {wa w0 w : World} {c q : Nat} {C : CS} {X : List Nat} (h : Ca w0 w c q C X) (k : Kp wa w0) : Ca wa w c q C X := by
  obtain ⟨mb, tb, A, h1, h2, h3⟩ := h
  exact ⟨mb, tb, A, h1.base k, h2, h3⟩
set_option maxRecDepth 100000 in
set_option maxHeartbeats 4000000 in
theorem wakes_any (w : World) : Calls Tryd.prog 7 #[] w fun e w' => e = .returned (.bool true) ∧ Kp w w' := by
  obtain ⟨dA, hA⟩ : ∃ d, d = scS 97 false := ⟨_, rfl⟩
  obtain ⟨dB, hB⟩ : ∃ d, d = scS 98 false := ⟨_, rfl⟩
  have sA : ∀ W, Calls Tryd.prog 14 #[.int .u8 97, .bool false] W fun e w' => e = .returned (.string dA) ∧ Kp W w' := fun W => by rw [hA]; exact sector_any 97 (by omega) false W
  have sB : ∀ W, Calls Tryd.prog 14 #[.int .u8 98, .bool false] W fun e w' => e = .returned (.string dB) ∧ Kp W w' := fun W => by rw [hB]; exact sector_any 98 (by omega) false W
  have zA : dA.size = 64 := by rw [hA]; exact scS_size _
  have zB : dB.size = 64 := by rw [hB]; exact scS_size _
  obtain ⟨C0, h0⟩ : ∃ C, C = newC 2 1 3 := ⟨_, rfl⟩
  obtain ⟨C1, h1⟩ : ∃ C, C = flC C0 0 1 dA := ⟨_, rfl⟩
  obtain ⟨C2, h2⟩ : ∃ C, C = ptC C1 0 1 dB := ⟨_, rfl⟩
  obtain ⟨C3, h3⟩ : ∃ C, C = gtC C2 0 1 := ⟨_, rfl⟩
  obtain ⟨C4, h4⟩ : ∃ C, C = dnC C3 0 := ⟨_, rfl⟩
  have hz : iOk 0 := by unfold iOk; omega
  have g0 : Gd C0.S := by rw [h0]; exact Gd.new (by omega) (by omega) (by omega) (by omega)
  have e0 : ptE C0 0 1 dA.size = 0 := pt_zero (by omega) (by rw [h0]; exact ⟨by omega, by show (1 : Int) < 3; omega⟩) zA (by rw [h0]; exact usE_ok (by simp [newC, newT]))
  have i1 : inT C1.S 0 = true := by rw [h1]; exact fl_in g0 e0
  have w1' : C1.W = 3 := by rw [h1, (fl_M _ _ _ _).2, h0]; rfl
  have e1 : ptE C1 0 1 dB.size = 0 := pt_zero (by omega) (by rw [w1']; omega) zB (us_of_in i1)
  have H1 : C1.H 0 = flH hd0 1 dA := by rw [h1, fl_H e0, h0]; rfl
  have H2 : C2.H 0 = ptH (flH hd0 1 dA) 1 dB := by rw [h2, pt_H e1, H1]
  have n2 : (C2.H 0).n 1 = dB := by rw [H2]; exact upS_at (flH hd0 1 dA).n 1 dB
  have o3 : (C3.H 0).o 1 = dA := by rw [h3, gt_H, H2]; exact upS_at hd0.o 1 dA
  have HC : Hid ((C0 = newC 2 1 3 ∧ C1 = flC C0 0 1 dA ∧ C2 = ptC C1 0 1 dB ∧ C3 = gtC C2 0 1 ∧ C4 = dnC C3 0) ∧ ptE C0 0 1 dA.size = 0 ∧ ptE C1 0 1 dB.size = 0 ∧ (C2.H 0).n 1 = dB ∧ (C3.H 0).o 1 = dA) := ⟨⟨h0, h1, h2, h3, h4⟩, e0, e1, n2, o3⟩
  have HI : Hid (∀ (V : World), Ca w V 0 0 C2 [] → True) := fun _ _ => trivial
  have HZ : Hid (isS dA = true ∧ isS dB = true ∧ iOk 0 ∧ inT C1.S 0 = true) := ⟨isS_of zA, isS_of zB, hz, i1⟩
  have hN := cnew_ok (m := 2) (z := 1) (d := 3) ⟨by omega, by omega, by omega, by omega⟩ (by omega) (by omega) w
  rw [← h0] at hN
  have HS := hid (And.intro zA zB)
  clear hA hB h0 h1 h2 h3 h4 e0 e1 n2 o3 hz i1 w1' H1 H2 g0 HI zA zB
  go_enter Tryd.func7, Tryd.ntmps7
  go_wp2_with fail
  refine hN.mono ?_; rintro e w1 ⟨c, rfl, x1⟩
  clear hN
  go_wp2_with fail
  refine (sA _).mono ?_; rintro e v1 ⟨rfl, j1⟩
  have x1 := (x1.kp j1).1
  have p1 := cfill x1 (by omega) 0 1 dA
  rw [HC.out.2.1, ← HC.out.1.2.1] at p1
  clear j1
  go_wp2_with fail
  refine p1.mono ?_; rintro e w2 ⟨rfl, x2, _⟩
  clear p1 x1
  go_wp2_with fail
  refine (sB _).mono ?_; rintro e v2 ⟨rfl, j2⟩
  have x2 := (x2.kp j2).1
  have p2 := cput x2 (by omega) 0 1 dB
  rw [HC.out.2.2.1, ← HC.out.1.2.2.1] at p2
  clear j2
  go_wp2_with fail
  refine p2.mono ?_; rintro e w3 ⟨rfl, x3, _⟩
  have HIN : Hid (inT C2.S 0 = true ∧ inT C3.S 0 = true ∧ (C4.H 0).o 1 = dB) := by
    have q1 : inT C2.S 0 = true := by rw [HC.out.1.2.2.1]; exact pt_in x2.g HC.out.2.2.1
    have q2 : inT C3.S 0 = true := by rw [HC.out.1.2.2.2.1, gt_in x3.g]; exact q1
    refine ⟨q1, q2, ?_⟩
    rw [HC.out.1.2.2.2.2, dn_H q2, HC.out.1.2.2.2.1, gt_H]
    exact HC.out.2.2.2.1
  have p3 := cget x3 HZ.out.2.2.1 1
  rw [HC.out.2.2.2.1, HZ.out.2.1, ← HC.out.1.2.2.2.1] at p3
  clear p2 x2
  go_wp2_with fail
  refine p3.mono ?_; rintro e w4 ⟨rfl, x4, _⟩
  have p4 := cold x4 HZ.out.2.2.1 1
  rw [HC.out.2.2.2.2, HZ.out.1] at p4
  clear p3 x3
  go_wp2_with fail
  refine p4.mono ?_; rintro e w5 ⟨rfl, k5⟩
  have x5 := (x4.kp k5).1
  have p5 := cdone x5 (by omega) HZ.out.2.2.1
  rw [HIN.out.2.1, ← HC.out.1.2.2.2.2] at p5
  clear p4 x4 k5
  go_wp2_with fail
  refine p5.mono ?_; rintro e w6 ⟨rfl, x6, _⟩
  have p6 := cold x6 HZ.out.2.2.1 1
  rw [HIN.out.2.2, HZ.out.2.1] at p6
  have HK6 := hid x6.k
  clear p5 x5
  go_wp2_with fail
  refine p6.mono ?_; rintro e w7 ⟨rfl, k7⟩
  have HK := hid (HK6.out.trans k7)
  clear p6 x6 k7 HK6 HC HZ HIN
  go_wp2_with fail
  refine (sB _).mono ?_; rintro e w8 ⟨rfl, k8⟩
  have HK8 := hid (HK.out.trans k8)
  clear k8 HK
  go_wp2_with fail
  refine (sA _).mono ?_; rintro e w9 ⟨rfl, k9⟩
  have HK9 := hid (HK8.out.trans k9)
  clear k9 HK8 sA sB
  go_wp2
  go_ret
  exact ⟨by simp, HK9.out⟩

end Go.Proofs.YtncdidklgpmefaaDoor
