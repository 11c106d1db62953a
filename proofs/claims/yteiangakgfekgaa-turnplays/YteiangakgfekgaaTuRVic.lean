/-
  Contract of the document's Victim. Conditions: that the object lies in memory as RX says, beside a turn (Rl).
-/
import Derived.Test.YteiangakgfekgaaTuRTouch
namespace Go.Proofs.Yteiangakgfekgaa
open Go.RowKit Plain
set_option linter.unusedVariables false

theorem split_first (f : RK → Bool) : ∀ l : List RK, (∀ a ∈ l, f a = false) ∨ ∃ A x B, l = A ++ x :: B ∧ (∀ a ∈ A, f a = false) ∧ f x = true
  | [] => .inl (by simp)
  | y :: l => by
    cases hy : f y with
    | true => exact .inr ⟨[], y, l, rfl, by simp, hy⟩
    | false =>
      rcases split_first f l with h | ⟨A, x, B, rfl, h1, h2⟩
      · exact .inl (fun a ha => by rcases List.mem_cons.1 ha with rfl | ha; exact hy; exact h a ha)
      · exact .inr ⟨y :: A, x, B, rfl, fun a ha => by rcases List.mem_cons.1 ha with rfl | ha; exact hy; exact h1 a ha, h2⟩
theorem ok_pin {dr : Bool} {x : RK} (hd : x.d = dr) : okB dr true x = !x.p := by unfold okB; rw [hd]; simp
theorem side_pin {S : TS} {R : RS} (hr : Rl S R) {PL DL : List RK} (h : Sd R.L PL DL) {dr : Bool} {x : RK} (hx : x ∈ side dr PL DL) : S.K x.n = !okB dr true x := by
  obtain ⟨h1, h2⟩ := side_in h hx
  rw [ok_pin h2, hr.pk x h1, Bool.not_not]
set_option maxRecDepth 100000 in
set_option maxHeartbeats 4000000 in
theorem rvictim_any {w0 w : World} {a : Nat} {T : List Nat} {S : TS} {R : RS} (h : RX w0 w a T R) (hr : Rl S R) (hg : Gd S) : Calls Try.prog 33 #[.pointer (some ⟨a, 0, none⟩)] w fun e w' => e = .returned (.tuple #[.int .i64 (vcK S), .bool (vcO S).isSome]) ∧ Kp w w' := by
  have hlen := hr.len
  have hl : R.L.length ≤ 64 := by have := hg.len; have := hg.m2; omega
  have hF := rfirst_any h (by omega) false true
  have HH := hid (And.intro h hr)
  obtain ⟨PL, DL, hSd, hP, hD⟩ := hr.h
  have hS1 := split_first (okB false true) PL
  have hS2 := split_first (okB true true) DL
  have HS := hid (And.intro hSd (And.intro hP (And.intro hD (And.intro hS1 hS2))))
  clear h hr hg hlen hSd hP hD hS1 hS2
  go_enter Try.func33, Try.ntmps33
  go_wp2_with fail
  refine hF.mono ?_; rintro e w1 ⟨z, rfl, hz, k1⟩
  clear hF
  obtain ⟨hSd, hP, hD, hS1, hS2⟩ := HS.out
  rcases hS1 with hn | ⟨A, x, B, e, hA, hx⟩
  · obtain rfl := bst_none hSd hz hn
    have hF := rfirst_any (HH.out.1.kept k1) (by omega) true true
    have K1 := hid k1
    have HN := hid hn
    clear hz hn k1
    go_wp2_with fail
    refine hF.mono ?_; rintro e w2 ⟨z, rfl, hz, k2⟩
    clear hF
    rcases hS2 with hn2 | ⟨A, x, B, e, hA, hx⟩
    · obtain rfl := bst_none hSd hz hn2
      have HE : Hid (vcO S = none ∧ Kp w w2) := by
        refine ⟨vc_miss (fun y hy => ?_), K1.out.trans k2⟩
        rw [← hP, ← hD, ← List.map_append] at hy
        obtain ⟨q, hq, rfl⟩ := List.mem_map.1 hy
        rcases List.mem_append.1 hq with hq | hq
        · rw [side_pin HH.out.2 hSd (dr := false) hq, HN.out q hq]; rfl
        · rw [side_pin HH.out.2 hSd (dr := true) hq, hn2 q hq]; rfl
      clear hz hn2 k2 hSd hP hD HN
      go_wp2
      go_ret2
      refine ⟨?_, HE.out.2⟩
      unfold vcK
      rw [HE.out.1]
      rfl
    · obtain ⟨j, rfl, hj, hjx⟩ := bst_get hSd hz e hA hx
      have HE : Hid (vcO S = some x.n ∧ Kp w w2) := by
        refine ⟨vc_hit (A := (PL ++ A).map RK.n) (B := B.map RK.n) ?_ (fun y hy => ?_) ?_, K1.out.trans k2⟩
        · rw [← hP, ← hD, show DL = A ++ x :: B from e]; simp
        · obtain ⟨q, hq, rfl⟩ := List.mem_map.1 hy
          rcases List.mem_append.1 hq with hq | hq
          · rw [side_pin HH.out.2 hSd (dr := false) hq, HN.out q hq]; rfl
          · rw [side_pin HH.out.2 hSd (dr := true) (by rw [show side true PL DL = A ++ x :: B from e]; simp [hq]), hA q hq]; rfl
        · rw [side_pin HH.out.2 hSd (dr := true) (by rw [show side true PL DL = A ++ x :: B from e]; simp), hx]; rfl
      obtain ⟨v, hT, hB⟩ := HH.out.1.kept (K1.out.trans k2)
      obtain ⟨_, _, c2, _, _⟩ := hB.cells
      obtain ⟨p, c, rfl, q1, q2⟩ := hB.o.shape
      obtain ⟨_, g, hp, _, hcs, _⟩ := hB.o.cells
      obtain rfl := hp (by omega)
      have d0 := (hcs j hj).1
      rw [hjx] at d0
      obtain ⟨n, hn⟩ : ∃ n, n = R.L.length := ⟨_, rfl⟩
      rw [← hn] at c2 q1 hj hl
      have hj3 : (j : Int) < (n : Int) := by omega
      have hj4 : decide ((j : Int) < 0) = false := by simp
      clear hz k2 hSd hP hD HN e hA hx hjx hT hB hp hcs hn
      go_wp2
      go_ret2
      refine ⟨?_, HE.out.2⟩
      unfold vcK
      rw [HE.out.1]
      rfl
  · obtain ⟨j, rfl, hj, hjx⟩ := bst_get hSd hz (dr := false) (by show PL = _; exact e) hA hx
    have HE : Hid (vcO S = some x.n ∧ Kp w w1) := by
      refine ⟨vc_hit (A := A.map RK.n) (B := (B ++ DL).map RK.n) ?_ (fun y hy => ?_) ?_, k1⟩
      · rw [← hP, ← hD, e]; simp
      · obtain ⟨q, hq, rfl⟩ := List.mem_map.1 hy
        rw [side_pin HH.out.2 hSd (dr := false) (by show q ∈ PL; rw [e]; simp [hq]), hA q hq]; rfl
      · rw [side_pin HH.out.2 hSd (dr := false) (by show x ∈ PL; rw [e]; simp), hx]; rfl
    obtain ⟨v, hT, hB⟩ := HH.out.1.kept k1
    obtain ⟨_, _, c2, _, _⟩ := hB.cells
    obtain ⟨p, c, rfl, q1, q2⟩ := hB.o.shape
    obtain ⟨_, g, hp, _, hcs, _⟩ := hB.o.cells
    obtain rfl := hp (by omega)
    have d0 := (hcs j hj).1
    rw [hjx] at d0
    obtain ⟨n, hn⟩ : ∃ n, n = R.L.length := ⟨_, rfl⟩
    rw [← hn] at c2 q1 hj hl
    have hj3 : (j : Int) < (n : Int) := by omega
    have hj4 : decide ((j : Int) < 0) = false := by simp
    clear hz k1 hSd hP hD e hA hx hjx hT hB hp hcs hn hS2
    go_wp2
    go_ret2
    refine ⟨?_, HE.out.2⟩
    unfold vcK
    rw [HE.out.1]
    rfl

end Go.Proofs.Yteiangakgfekgaa
