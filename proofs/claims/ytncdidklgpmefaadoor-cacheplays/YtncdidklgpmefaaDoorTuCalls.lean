/-
  Contracts of a turn's take, Add, Touch, Pin and Drop. Conditions: that the object lies in memory as TX says, as turns come; that the key is an int.
-/
import Derived.Test.YtncdidklgpmefaaDoorTuObj
namespace Go.Proofs.YtncdidklgpmefaaDoor
open Go.RowKit Plain
set_option linter.unusedVariables false

theorem Nz.mono {σ : Type} {O : World → World → Nat → List Nat → σ → Prop} {w0 w w' : World} {b : Nat} {T : List Nat} {S S' : σ} (h : Nz O w0 w w' b T S) (e : S = S') : Nz O w0 w w' b T S' := by subst e; exact h
set_option maxRecDepth 100000 in
set_option maxHeartbeats 1000000 in
theorem take_any {w0 w : World} {a : Nat} {T : List Nat} {S : TS} (h : TX w0 w a T S) (hg : Gd S) (k : Int) : Calls Tryd.prog 48 #[.pointer (some ⟨a, 0, none⟩), .int .i64 k] w fun e w' => e = .returned (.bool (inT S k)) ∧ Nz TX w0 w w' a T (tkS S k) := by
  obtain ⟨mb, vp, vd, rfl, h⟩ := h
  have h1 := hg.len
  have h2 := hg.m2
  by_cases hp : k ∈ S.P
  · have hT := rowtake_hit h.h (o := 0) rfl h.p h.pa (by omega) k hp
    have HH : Hid (TB w0 w a mb vp vd S ∧ inT S k = true ∧ S.D.erase k = S.D) := ⟨h, in_iff.2 (by simp [hp]), erase_out (hg.off hp)⟩
    rw [HH.out.2.1]
    clear h hg hp h1 h2
    go_enter Tryd.func48, Tryd.ntmps48
    go_wp2_with fail
    refine hT.mono ?_; rintro e w1 ⟨rfl, v', w2, rfl, ho, hs, hv⟩
    have HN := hid ((HH.out.1.setP hs ho (.inl hv)).mono (show _ = tkS S k by unfold tkS; rw [HH.out.2.2]))
    clear hT ho hs hv HH
    go_wp2
    go_ret
    exact ⟨rfl, HN.out⟩
  · have hM := rowtake_miss h.h (o := 0) rfl h.p (by omega) k hp
    by_cases hd : k ∈ S.D
    · have hT := rowtake_hit h.h (o := 1) rfl h.d h.da (by omega) k hd
      have HH : Hid (TB w0 w a mb vp vd S ∧ inT S k = true ∧ S.P.erase k = S.P) := ⟨h, in_iff.2 (by simp [hd]), erase_out hp⟩
      rw [HH.out.2.1]
      clear h hg hp hd h1 h2
      go_enter Tryd.func48, Tryd.ntmps48
      go_wp2_with fail
      refine hM.mono ?_; rintro e w1 ⟨rfl, rfl⟩
      clear hM
      go_wp2_with fail
      refine hT.mono ?_; rintro e w1 ⟨rfl, v', w2, rfl, ho, hs, hv⟩
      have HN := hid ((HH.out.1.setD hs ho (.inl hv)).mono (show _ = tkS S k by unfold tkS; rw [HH.out.2.2]))
      clear hT ho hs hv HH
      go_wp2
      go_ret
      exact ⟨rfl, HN.out⟩
    · have hM2 := rowtake_miss h.h (o := 1) rfl h.d (by omega) k hd
      have HH : Hid (TB w0 w a mb vp vd S ∧ inT S k = false ∧ tkS S k = S) := ⟨h, in_not.2 (by simp [hp, hd]), by unfold tkS; rw [erase_out hp, erase_out hd]⟩
      rw [HH.out.2.1]
      clear h hg hp hd h1 h2
      go_enter Tryd.func48, Tryd.ntmps48
      go_wp2_with fail
      refine hM.mono ?_; rintro e w1 ⟨rfl, rfl⟩
      clear hM
      go_wp2_with fail
      refine hM2.mono ?_; rintro e w1 ⟨rfl, rfl⟩
      clear hM2
      go_wp2
      go_ret
      refine ⟨rfl, ?_⟩
      rw [HH.out.2.2]
      exact Nz.refl ⟨mb, vp, vd, rfl, HH.out.1⟩
set_option maxRecDepth 100000 in
set_option maxHeartbeats 1000000 in
theorem add_any {w0 w : World} {a : Nat} {T : List Nat} {S : TS} (h : TX w0 w a T S) (hg : Gd S) (k : Int) : Calls Tryd.prog 52 #[.pointer (some ⟨a, 0, none⟩), .int .i64 k] w fun e w' => e = .returned (.int .i64 (adE S k)) ∧ Nz TX w0 w w' a T (adS S k) := by
  have hH := has_any h hg k
  have hF := full_any h hg
  have h1 := hg.len
  have h2 := hg.m2
  cases hi : inT S k with
  | true =>
    have he : adE S k = 11 := by unfold adE; rw [if_pos hi]
    have HH : Hid (TX w0 w a T S ∧ adS S k = S) := ⟨h, ad_no (by rw [he]; decide)⟩
    rw [hi] at hH
    rw [he]
    clear h hg he hF h1 h2
    go_enter Tryd.func52, Tryd.ntmps52
    go_wp2_with fail
    refine hH.mono ?_; rintro e w1 ⟨rfl, rfl⟩
    clear hH
    go_wp2
    go_ret
    refine ⟨rfl, ?_⟩
    rw [HH.out.2]
    exact Nz.refl HH.out.1
  | false =>
    rw [hi] at hH
    by_cases hf : S.M ≤ (S.P.length : Int) + (S.D.length : Int)
    · have he : adE S k = 10 := by unfold adE; rw [hi, if_neg (by decide), if_pos hf]
      have HH : Hid (TX w0 w a T S ∧ adS S k = S) := ⟨h, ad_no (by rw [he]; decide)⟩
      rw [decide_eq_true hf] at hF
      rw [he]
      clear h hg he hf h1 h2
      go_enter Tryd.func52, Tryd.ntmps52
      go_wp2_with fail
      refine hH.mono ?_; rintro e w1 ⟨rfl, rfl⟩
      clear hH
      go_wp2_with fail
      refine hF.mono ?_; rintro e w1 ⟨rfl, k1⟩
      clear hF
      go_wp2
      go_ret
      refine ⟨rfl, ?_⟩
      rw [HH.out.2]
      exact Nz.of OL.tx HH.out.1 k1
    · have he : adE S k = 0 := by unfold adE; rw [hi, if_neg (by decide), if_neg hf]
      have HH : Hid (TX w0 w a T S ∧ adS S k = { S with P := S.P ++ [k] } ∧ S.P.length ≤ 64) := ⟨h, ad_ok he, by omega⟩
      rw [decide_eq_false hf] at hF
      rw [he]
      clear h hg he hf h1 h2
      go_enter Tryd.func52, Tryd.ntmps52
      go_wp2_with fail
      refine hH.mono ?_; rintro e w1 ⟨rfl, rfl⟩
      clear hH
      go_wp2_with fail
      refine hF.mono ?_; rintro e w1' ⟨rfl, k1⟩
      clear hF
      obtain ⟨mb, vp, vd, rfl, h⟩ := HH.out.1
      have hB := h.kept k1
      have hA := rowadd_any hB.h (o := 0) rfl hB.p hB.pa hB.sz (by have := HH.out.2.2; omega) k
      have HB := hid (And.intro h k1)
      clear h hB
      go_wp2_with fail
      refine hA.mono ?_; rintro e w2 ⟨rfl, v', w3, rfl, ho, hs, hv⟩
      have HN : Hid (Nz TX w0 w1 (w3.setCell ⟨a, 0, none⟩ v') a (bl a mb vp vd) (adS S k)) := by
        have q := (HB.out.1.kept HB.out.2).setP hs ho hv
        obtain ⟨T', q1, q2, q3⟩ := q
        show Nz TX w0 w1 _ a _ (adS S k)
        rw [HH.out.2.1]
        exact ⟨T', q1, (HB.out.2.sp _).trans q2, (Nw.refl _ _).trans q3 HB.out.2.size⟩
      clear hA ho hs hv HH HB k1
      go_wp2
      go_ret
      exact ⟨rfl, HN.out⟩
set_option maxRecDepth 100000 in
set_option maxHeartbeats 1000000 in
theorem pin_any {w0 w : World} {a : Nat} {T : List Nat} {S : TS} (h : TX w0 w a T S) (hg : Gd S) (hn : S.n < 1000) (k : Int) (on : Bool) : Calls Tryd.prog 32 #[.pointer (some ⟨a, 0, none⟩), .int .i64 k, .bool on] w fun e w' => e = .returned (.bool (inT S k)) ∧ Nz TX w0 w w' a T (pnS S k on) := by
  have hH := has_any h hg k
  cases hi : inT S k with
  | false =>
    have HH : Hid (TX w0 w a T S ∧ pnS S k on = S) := ⟨h, by unfold pnS; rw [hi, if_neg (by decide)]⟩
    rw [hi] at hH
    clear h hg
    go_enter Tryd.func32, Tryd.ntmps32
    go_wp2_with fail
    refine hH.mono ?_; rintro e w1 ⟨rfl, rfl⟩
    clear hH
    go_wp2
    go_ret
    refine ⟨rfl, ?_⟩
    rw [HH.out.2]
    exact Nz.refl HH.out.1
  | true =>
    have hk : iOk k := hg.ok k (in_iff.1 hi)
    have hS : pnS S k on = { S with K := setK S.K k on, n := S.n + 1 } := by unfold pnS; rw [hi, if_pos rfl]
    rw [hi] at hH
    obtain ⟨mb, vp, vd, rfl, h⟩ := h
    obtain ⟨_, _, _, _, c4⟩ := h.cells
    cases on with
    | true =>
      obtain ⟨w2, hrun, hm, hs⟩ := h.k.put hk hn
      have HN := hid ((h.setM hs hm).mono hS.symm)
      clear h hg hk hS hm hs hn
      go_enter Tryd.func32, Tryd.ntmps32
      go_wp2_with fail
      refine hH.mono ?_; rintro e w1 ⟨rfl, rfl⟩
      clear hH
      go_wp2
      go_ret
      exact ⟨rfl, HN.out⟩
    | false =>
      obtain ⟨w2, hrun, hm, hs⟩ := h.k.more.del hk
      have HN := hid ((h.setM hs hm).mono hS.symm)
      clear h hg hk hS hm hs hn
      go_enter Tryd.func32, Tryd.ntmps32
      go_wp2_with fail
      refine hH.mono ?_; rintro e w1 ⟨rfl, rfl⟩
      clear hH
      go_wp2
      go_ret
      exact ⟨rfl, HN.out⟩
set_option maxRecDepth 100000 in
set_option maxHeartbeats 1000000 in
theorem drop_any {w0 w : World} {a : Nat} {T : List Nat} {S : TS} (h : TX w0 w a T S) (hg : Gd S) (k : Int) : Calls Tryd.prog 57 #[.pointer (some ⟨a, 0, none⟩), .int .i64 k] w fun e w' => e = .returned (.bool (inT S k)) ∧ Nz TX w0 w w' a T (drS S k) := by
  have hT := take_any h hg k
  cases hi : inT S k with
  | false =>
    have HH : Hid (tkS S k = drS S k) := by
      have hn := in_not.1 hi
      rw [List.mem_append, not_or] at hn
      show tkS S k = drS S k
      unfold drS tkS
      rw [hi, if_neg (by decide), erase_out hn.1, erase_out hn.2]
    rw [hi] at hT
    clear h hg
    go_enter Tryd.func57, Tryd.ntmps57
    go_wp2_with fail
    refine hT.mono ?_; rintro e w1 ⟨rfl, z⟩
    rw [HH.out] at z
    have HZ := hid z
    clear hT z
    go_wp2
    go_ret
    exact ⟨rfl, HZ.out⟩
  | true =>
    have hk : iOk k := hg.ok k (in_iff.1 hi)
    have HS : Hid (drS S k = { tkS S k with K := setK S.K k false } ∧ iOk k) := ⟨by unfold drS; rw [hi, if_pos rfl], hk⟩
    rw [hi] at hT
    clear h hg hk
    go_enter Tryd.func57, Tryd.ntmps57
    go_wp2_with fail
    refine hT.mono ?_; rintro e w1 ⟨rfl, T1, ⟨mb, vp, vd, hT1, h⟩, s1, n1⟩
    obtain ⟨_, _, _, _, c4⟩ := h.cells
    obtain ⟨w2, hrun, hm, hs⟩ := h.k.del HS.out.2
    have HN : Hid (Nz TX w0 w w2 a T (drS S k)) := by
      obtain ⟨T2, q1, q2, q3⟩ := h.setM hs hm
      rw [← hT1] at q2 q3
      show Nz TX w0 w w2 a T (drS S k)
      rw [HS.out.1]
      exact ⟨T2, q1, s1.then q2 n1, n1.trans q3 s1.size⟩
    clear hT h hT1 s1 n1 hm hs HS
    go_wp2
    go_ret
    exact ⟨rfl, HN.out⟩

end Go.Proofs.YtncdidklgpmefaaDoor
