/-
  A cache in use (Ca), and contracts of New, Get, Fill, Put, Old, Done, Drop, Have, Known. Conditions: that the object lies in memory, as caches come; that a stripe is an int; fewer than 1000 changes.
-/
import Derived.Test.YtncdidklgpmefaaDoorCaObj
import Derived.Deep.DeepCutAuto
import Derived.Deep.RegionHeld3
namespace Go.Proofs.YtncdidklgpmefaaDoor
open Go.RowKit Plain Go.Maps Go.WideMaps
set_option linter.unusedVariables false

section
variable {w0 w w' w1 w2 w3 : World} {c mb tb q : Nat} {A : Int → Nat} {C : CS} {X : List Nat}
/-- columns as a list of cells. -/
def ccL (f : Int → ByteArray) : List Value := (List.range 34).map (cc f)
theorem ccL_len (f : Int → ByteArray) : (ccL f).length = 34 := by simp [ccL]
theorem ccL_at (f : Int → ByteArray) (j : Nat) (h : j < 34) : (ccL f)[j]? = some (cc f j) := by
  unfold ccL
  rw [List.getElem?_map, List.getElem?_range h]
  rfl
theorem ccL_one (f : Int → ByteArray) : ∀ v ∈ ccL f, v.oneCell' = true := by
  intro v hv
  obtain ⟨j, _, rfl⟩ := List.mem_map.1 hv
  unfold cc
  split <;> rfl
theorem Co.range {w : World} {b off : Nat} {f : Int → ByteArray} (h : Co w b off f) : w.rangeAt b off (ccL f) := fun j v hv => by
  have hj : j < 34 := by
    have := (List.getElem?_eq_some_iff.1 hv).1
    rwa [ccL_len] at this
  rw [ccL_at f j hj] at hv
  rw [← hv]
  exact h.c j hj
theorem Cl.there {w : World} {b m : Nat} {f : Nat → Value} (h : Cl w b m f) (o n : Nat) (hn : o + n ≤ m) : w.there b o n := fun j hj => ⟨by rw [h.c (o + j) (by omega)]; rfl, h.z _⟩
/-- what is now is old too. -/
theorem Cl.olds {w : World} {b : Nat} {h : Hd} (k : Cl w b 72 (hc h)) : Cl (w.setCells b 34 (ccL h.n)) b 72 (hc { h with o := h.n }) := by
  have ht := k.there 34 34 (by omega)
  have hr := World.rangeAt_setCells_same w b 34 (ccL h.n) (by rw [ccL_len]; exact ht)
  have hS := Sp.setCells (T := [b]) b (by simp) (ccL h.n) 34 _ (Sp.refl _ w)
  refine ⟨Nat.lt_of_lt_of_le k.lt hS.size, fun j hj => ?_, fun j => by rw [World.frozen?_setCells]; exact k.z j⟩
  unfold hc
  by_cases e1 : j < 34
  · rw [if_pos e1, World.cell?_setCells_out b _ 34 w ⟨b, j, none⟩ (fun _ _ => by left; exact e1), k.c j hj]
    unfold hc
    rw [if_pos e1]
  · rw [if_neg e1]
    by_cases e2 : j < 68
    · rw [if_pos e2]
      have := hr (j - 34) _ (ccL_at h.n (j - 34) (by omega))
      rwa [show 34 + (j - 34) = j by omega] at this
    · rw [if_neg e2, World.cell?_setCells_out b _ 34 w ⟨b, j, none⟩ (fun _ _ => by right; rw [ccL_len]; show 34 + 34 ≤ j; omega), k.c j hj]
      unfold hc
      rw [if_neg e1, if_neg e2]
theorem size_cols : (Tryd.prog.info? 70).map (·.size) = some 34 := by kernel_rfl
theorem us_n {C : CS} (hg : Gd C.S) (k : Int) : (usC C k).S.n = C.S.n := by
  unfold usC
  cases hk : inT C.S k with
  | true => rw [if_pos rfl]; exact (to_K C.S k).2.2.2
  | false =>
    rw [if_neg (by decide)]
    split
    · rename_i he
      show (adS (plC C).S k).n = _
      rw [ad_ok (pl_add hg hk he)]
      exact (pl_off hg hk).2.2
    · rfl
/-- a cache in use. -/
def Ca (w0 w : World) (c q : Nat) (C : CS) (X : List Nat) : Prop := ∃ mb tb A, CB w0 w c mb tb A q C X ∧ Ci C ∧ C.S.n ≤ q
theorem Ca.g {w0 w : World} {c q : Nat} {C : CS} {X : List Nat} (h : Ca w0 w c q C X) : Gd C.S := by obtain ⟨_, _, _, h, _⟩ := h; exact h.tu.g
theorem Ca.i {w0 w : World} {c q : Nat} {C : CS} {X : List Nat} (h : Ca w0 w c q C X) : Ci C := by obtain ⟨_, _, _, _, h, _⟩ := h; exact h
theorem Ca.k {w0 w : World} {c q : Nat} {C : CS} {X : List Nat} (h : Ca w0 w c q C X) : Kp w0 w := by obtain ⟨_, _, _, h, _⟩ := h; exact h.tu.k
theorem Ca.xlt {w0 w : World} {c q : Nat} {C : CS} {X : List Nat} (h : Ca w0 w c q C X) {x : Nat} (hx : x ∈ X) : x < w.heap.size := by obtain ⟨_, _, _, h, _⟩ := h; exact h.xlt hx
theorem Ca.up {w0 w : World} {c q : Nat} {C : CS} {X : List Nat} (h : Ca w0 w c q C X) {q' : Nat} (hq : q ≤ q') : Ca w0 w c q' C X := by
  obtain ⟨mb, tb, A, h1, h2, h3⟩ := h
  exact ⟨mb, tb, A, h1.more hq, h2, Nat.le_trans h3 hq⟩
theorem Ca.kp {w0 w w' : World} {c q : Nat} {C : CS} {X : List Nat} (h : Ca w0 w c q C X) (k : Kp w w') : Ca w0 w' c q C X ∧ Lk X w w' := by
  obtain ⟨mb, tb, A, h1, h2, h3⟩ := h
  obtain ⟨b, l⟩ := h1.kp k
  exact ⟨⟨mb, tb, A, b, h2, h3⟩, l⟩
theorem mem3 {c mb : Nat} {L X X' : List Nat} (hX : ∀ x ∈ X', x ∈ X) : ∀ x ∈ c :: mb :: (L ++ X'), x ∈ c :: mb :: (L ++ X) := fun x hx => by
  rcases List.mem_cons.1 hx with rfl | hx
  · simp
  · rcases List.mem_cons.1 hx with rfl | hx
    · simp
    · rcases List.mem_append.1 hx with hx | hx
      · exact List.mem_cons_of_mem _ (List.mem_cons_of_mem _ (List.mem_append_left _ hx))
      · exact List.mem_cons_of_mem _ (List.mem_cons_of_mem _ (List.mem_append_right _ (hX x hx)))
theorem Ca.less {w0 w : World} {c q : Nat} {C : CS} {X X' : List Nat} (h : Ca w0 w c q C X) (hX : ∀ x ∈ X', x ∈ X) : Ca w0 w c q C X' := by
  obtain ⟨mb, tb, A, h1, h2, h3⟩ := h
  exact ⟨mb, tb, A, { h1 with tu := h1.tu.less (mem3 hX), xs := fun x hx => h1.xs x (hX x hx) }, h2, h3⟩
/-- stores into blocks beside it, and other blocks laid beside it. -/
theorem Ca.mv {w0 w w' : World} {c q : Nat} {C : CS} {X X' T : List Nat} (h : Ca w0 w c q C X) (k : Sp T w w') (hT : ∀ t ∈ T, t ∈ X ∧ w0.heap.size ≤ t) (hX : ∀ x ∈ X', (x ∈ X ∨ w.heap.size ≤ x) ∧ x < w'.heap.size) : Ca w0 w' c q C X' := by
  obtain ⟨mb, tb, A, h1, h2, h3⟩ := h
  obtain ⟨n, D, q1, q2⟩ := h1.m
  have hl : ∀ x ∈ c :: mb :: ((C.S.P ++ C.S.D).map A ++ X), x < w.heap.size := by obtain ⟨_, _, _, _, h5⟩ := h1.tu; exact fun x hx => (h5 x hx).2
  have hcl := hl c (by simp)
  have hml := hl mb (by simp)
  have hc : c ∉ T := fun ht => (h1.xs c (hT c ht).1).1 rfl
  have hm : mb ∉ T := fun ht => (h1.xs mb (hT mb ht).1).2.1 rfl
  have hA : ∀ j, inT C.S j = true → A j ∉ T := fun j e ht => (h1.xs _ (hT _ ht).1).2.2 j e rfl
  refine ⟨mb, tb, A, { h1 with tu := ?_, h := (k.block c hcl hc).trans h1.h, m := ⟨n, D, q1, q2.blk (k.block mb hml hm)⟩, a := fun j e => (h1.a j e).sp k (hA j e), xs := fun x hx => ?_ }, h2, h3⟩
  · refine h1.tu.mv k (fun t ht => ⟨h1.inX (hT t ht).1, (hT t ht).2⟩) (fun x hx => ?_)
    rcases List.mem_cons.1 hx with rfl | hx
    · exact ⟨.inl (by simp), Nat.lt_of_lt_of_le hcl k.size⟩
    · rcases List.mem_cons.1 hx with rfl | hx
      · exact ⟨.inl (by simp), Nat.lt_of_lt_of_le hml k.size⟩
      · rcases List.mem_append.1 hx with hx | hx
        · obtain ⟨j, hj, rfl⟩ := List.mem_map.1 hx
          have := h1.inA (in_iff.2 hj)
          exact ⟨.inl this, Nat.lt_of_lt_of_le (hl _ this) k.size⟩
        · refine ⟨?_, (hX x hx).2⟩
          rcases (hX x hx).1 with e | e
          · exact .inl (h1.inX e)
          · exact .inr e
  · rcases (hX x hx).1 with e | e
    · exact h1.xs x e
    · refine ⟨by omega, by omega, fun j ej => ?_⟩
      have := hl _ (h1.inA ej)
      omega
theorem Ca.sp {w0 w w' : World} {c q : Nat} {C : CS} {X T : List Nat} (h : Ca w0 w c q C X) (k : Sp T w w') (hT : ∀ t ∈ T, t ∈ X ∧ w0.heap.size ≤ t) : Ca w0 w' c q C X :=
  h.mv k hT (fun x hx => ⟨.inl hx, Nat.lt_of_lt_of_le (h.xlt hx) k.size⟩)
/-- a new block beside it. -/
theorem Ca.more {w0 w w' : World} {c q : Nat} {C : CS} {X : List Nat} (h : Ca w0 w c q C X) (k : Kp w w') {M : Nat} (h1 : w.heap.size ≤ M) (h2 : M < w'.heap.size) : Ca w0 w' c q C (M :: X) := by
  refine h.mv (k.sp []) (fun t ht => by cases ht) (fun x hx => ?_)
  rcases List.mem_cons.1 hx with rfl | hx
  · exact ⟨.inr h1, h2⟩
  · exact ⟨.inl hx, Nat.lt_of_lt_of_le (h.xlt hx) k.size⟩

/-! ### New -/
set_option maxRecDepth 100000 in
set_option maxHeartbeats 1000000 in
theorem cnew_ok {m z d : Int} (h : newOk m z) (h1 : 2 ≤ d) (h2 : d ≤ 30) (w : World) : Calls Tryd.prog 5 #[.int .i64 m, .int .i64 z, .int .i64 d] w fun e w' => ∃ c, e = .returned (.tuple #[.pointer (some ⟨c, 0, none⟩), .int .i64 0]) ∧ Ca w w' c 0 (newC m z d) [] := by
  have hN := Tu.new h w
  have hmm : ∀ (t : TypeId) (W : World), (Instr.makeMap t none).run Tryd.prog W = .ok (.map (some W.heap.size)) (W.alloc (.map #[] 0)) := fun _ _ => rfl
  have HI : Hid (Ci (newC m z d)) := Ci.new h1 h2
  clear h
  go_enter Tryd.func5, Tryd.ntmps5
  go_wp2_with fail
  refine hN.mono ?_; rintro e w1 ⟨a, rfl, u⟩
  have HU := hid u
  clear hN u
  go_wp2
  go_ret2
  have kp1 : Kp w1 (w1.alloc (.map #[] 0)) := (Kp.refl w1).alloc _
  have kp2 : Kp (w1.alloc (.map #[] 0)) ((w1.alloc (.map #[] 0)).alloc (.cells #[.map (some w1.heap.size), .pointer (some ⟨a, 0, none⟩), .int .i64 d] 55)) := (Kp.refl _).alloc _
  have s1 : (w1.alloc (.map #[] 0)).heap.size = w1.heap.size + 1 := by simp
  have s2 : ((w1.alloc (.map #[] 0)).alloc (.cells #[.map (some w1.heap.size), .pointer (some ⟨a, 0, none⟩), .int .i64 d] 55)).heap.size = w1.heap.size + 2 := by simp
  have hz := HU.out.k.size
  have u1 := HU.out.more kp1 (Nat.le_refl _) (by omega)
  have u2 := u1.more kp2 (M := w1.heap.size + 1) (by omega) (by omega)
  have hno : ∀ k, inT (newT m z) k = true → False := fun k e => by have := in_iff.1 e; simp [newT] at this
  refine ⟨w1.heap.size + 1, ?_, w1.heap.size, a, fun _ => 0, ⟨u2, ?_, ⟨0, .map [], Nat.le_refl _, ?_⟩, fun k e => (hno k e).elim, by omega, hz, fun k e => (hno k e).elim, by omega, fun k e => (hno k e).elim, fun j k e _ _ => (hno j e).elim, fun x hx => by cases hx⟩, HI.out, Nat.le_refl _⟩
  · simp
  · have := new_obj (w1.alloc (.map #[] 0)) #[.map (some w1.heap.size), .pointer (some ⟨a, 0, none⟩), .int .i64 d] 55
    rw [s1] at this
    exact this
  · have e : atF (newC m z d).S (fun _ => 0) = fun _ => none := funext fun k => at_out (by
      cases e : inT (newT m z) k with
      | false => exact e
      | true => exact (hno k e).elim)
    rw [e]
    exact (MpP.made w1).blk (kp2.block _ (by omega))
set_option maxRecDepth 100000 in
set_option maxHeartbeats 1000000 in
theorem cnew_no {m z d : Int} (h : ¬ (newOk m z ∧ 2 ≤ d ∧ d ≤ 30)) (w : World) : Calls Tryd.prog 5 #[.int .i64 m, .int .i64 z, .int .i64 d] w fun e w' => e = .returned (.tuple #[.pointer none, .int .i64 2]) ∧ Kp w w' := by
  by_cases hn : newOk m z
  · have hN := Tu.new hn w
    have hd : d < 2 ∨ (2 ≤ d ∧ 30 < d) := by
      by_cases e : d < 2
      · exact .inl e
      · exact .inr ⟨by omega, by by_cases e2 : 30 < d; exact e2; exact absurd ⟨hn, by omega, by omega⟩ h⟩
    clear h hn
    rcases hd with hd | ⟨hd1, hd2⟩
    · go_enter Tryd.func5, Tryd.ntmps5
      go_wp2_with fail
      refine hN.mono ?_; rintro e w1 ⟨a, rfl, u⟩
      have HK := hid u.k
      clear hN u
      go_wp2
      go_ret2
      exact ⟨rfl, HK.out⟩
    · go_enter Tryd.func5, Tryd.ntmps5
      go_wp2_with fail
      refine hN.mono ?_; rintro e w1 ⟨a, rfl, u⟩
      have HK := hid u.k
      clear hN u
      go_wp2
      go_ret2
      exact ⟨rfl, HK.out⟩
  · have hN := new_no m z hn w
    clear h hn
    go_enter Tryd.func5, Tryd.ntmps5
    go_wp2_with fail
    refine hN.mono ?_; rintro e w1 ⟨rfl, k1⟩
    clear hN
    go_wp2
    go_ret2
    exact ⟨rfl, k1⟩

/-! ### Get, Old -/
theorem no_of {s : ByteArray} (h : isS s = false) : s = noS := by
  unfold isS at h
  have h0 : s.size = 0 := by simpa using h
  apply ByteArray.ext
  exact Array.eq_empty_of_size_eq_zero h0
set_option maxRecDepth 100000 in
set_option maxHeartbeats 1000000 in
theorem cget (h : Ca w0 w c q C X) {k : Int} (hk : iOk k) (j : Int) : Calls Tryd.prog 8 #[.pointer (some ⟨c, 0, none⟩), .int .i64 k, .int .i64 j] w fun e w' => e = .returned (.tuple #[.string ((C.H k).n j), .bool (isS ((C.H k).n j))]) ∧ Ca w0 w' c q (gtC C k j) X ∧ Lk X w w' := by
  obtain ⟨mb, tb, A, h, hi, hn⟩ := h
  have hF := find_any h hk
  obtain ⟨c0, c1, _⟩ := h.cells
  cases hin : inT C.S k with
  | false =>
    rw [hin, at_out hin] at hF
    have e1 : (C.H k).n j = noS := by rw [hi.outk hin]; rfl
    have HH : Hid (Ca w0 w c q C X ∧ gtC C k j = C) := ⟨⟨mb, tb, A, h, hi, hn⟩, by unfold gtC; rw [e1, isS_no]; rfl⟩
    rw [e1, isS_no]
    clear h hi hn hin e1
    go_enter Tryd.func8, Tryd.ntmps8
    go_wp2_with fail
    refine hF.mono ?_; rintro e w1 ⟨rfl, k1⟩
    have HK := hid k1
    clear hF c0 c1 k1
    go_wp2
    go_ret2
    refine ⟨rfl, ?_⟩
    rw [HH.out.2]
    exact HH.out.1.kp HK.out
  | true =>
    rw [hin, at_in hin] at hF
    have hA := h.a k hin
    have hG : ∀ w1, Kp w w1 → Calls Tryd.prog 26 #[.pointer (some ⟨A k, 0, none⟩), .int .i64 j] w1 fun e w' => e = .returned (.tuple #[.string ((C.H k).n j), .bool (isS ((C.H k).n j))]) ∧ Kp w1 w' :=
      fun w1 k1 => cget_any (A k) 0 (C.H k).n C.W hi.w2 (fun i hb => ((hi.ok k).out i hb).1) w1 (hA.kp k1).now (hA.kp k1).lt j
    obtain ⟨s, hs⟩ : ∃ s, s = (C.H k).n j := ⟨_, rfl⟩
    obtain ⟨b, hb⟩ : ∃ b, b = isS s := ⟨_, rfl⟩
    rw [← hs, ← hb] at hG
    rw [← hs, ← hb]
    have HH : Hid (CB w0 w c mb tb A q C X ∧ Ci C ∧ C.S.n ≤ q ∧ gtC C k j = if b then { C with S := toS C.S k } else C) := ⟨h, hi, hn, by unfold gtC; rw [← hs, ← hb]⟩
    clear h hi hn hin hA hs hb
    cases b with
    | false =>
      go_enter Tryd.func8, Tryd.ntmps8
      go_wp2_with fail
      refine hF.mono ?_; rintro e w1 ⟨rfl, k1⟩
      have hG1 := hG w1 k1
      have HK := hid k1
      clear hF hG c0 c1 k1
      unfold ptO
      go_wp2_with fail
      refine hG1.mono ?_; rintro e w2 ⟨rfl, k2⟩
      have HK2 := hid (HK.out.trans k2)
      clear hG1 k2
      go_wp2
      go_ret2
      refine ⟨rfl, ?_⟩
      rw [HH.out.2.2.2, if_neg (by decide)]
      obtain ⟨q1, q2⟩ := HH.out.1.kp HK2.out
      exact ⟨⟨mb, tb, A, q1, HH.out.2.1, HH.out.2.2.1⟩, q2⟩
    | true =>
      go_enter Tryd.func8, Tryd.ntmps8
      go_wp2_with fail
      refine hF.mono ?_; rintro e w1 ⟨rfl, k1⟩
      have hG1 := hG w1 k1
      have HK := hid k1
      have c1 := k1.held c1
      clear hF hG c0 k1
      unfold ptO
      go_wp2_with fail
      refine hG1.mono ?_; rintro e w2 ⟨rfl, k2⟩
      have HB := hid (HH.out.1.kp (HK.out.trans k2))
      have c1 := k2.held c1
      have hT := HB.out.1.tu.touch k
      clear hG1 k2
      go_wp2_with fail
      refine hT.mono ?_; rintro e w3 ⟨rfl, u, l⟩
      have HN : Hid (Ca w0 w3 c q (gtC C k j) X ∧ Lk X w w3) := by
        obtain ⟨b, l2⟩ := HB.out.1.turn u l (to_perm HB.out.1.tu.g k)
        refine ⟨?_, HB.out.2.trans l2⟩
        rw [HH.out.2.2.2, if_pos trivial]
        exact ⟨mb, tb, A, b, HH.out.2.1.touch HB.out.1.tu.g k, by show (toS C.S k).n ≤ q; rw [(to_K C.S k).2.2.2]; exact HH.out.2.2.1⟩
      clear hT u l
      go_wp2
      go_ret2
      exact ⟨rfl, HN.out⟩
set_option maxRecDepth 100000 in
set_option maxHeartbeats 1000000 in
theorem cold (h : Ca w0 w c q C X) {k : Int} (hk : iOk k) (j : Int) : Calls Tryd.prog 24 #[.pointer (some ⟨c, 0, none⟩), .int .i64 k, .int .i64 j] w fun e w' => e = .returned (.tuple #[.string ((C.H k).o j), .bool (isS ((C.H k).o j))]) ∧ Kp w w' := by
  obtain ⟨mb, tb, A, h, hi, hn⟩ := h
  have hF := find_any h hk
  cases hin : inT C.S k with
  | false =>
    rw [hin, at_out hin] at hF
    have e1 : (C.H k).o j = noS := by rw [hi.outk hin]; rfl
    rw [e1, isS_no]
    clear h hi hn hin e1
    go_enter Tryd.func24, Tryd.ntmps24
    go_wp2_with fail
    refine hF.mono ?_; rintro e w1 ⟨rfl, k1⟩
    clear hF
    go_wp2
    go_ret2
    exact ⟨rfl, k1⟩
  | true =>
    rw [hin, at_in hin] at hF
    have hA := h.a k hin
    have hG : ∀ w1, Kp w w1 → Calls Tryd.prog 26 #[.pointer (some ⟨A k, 34, none⟩), .int .i64 j] w1 fun e w' => e = .returned (.tuple #[.string ((C.H k).o j), .bool (isS ((C.H k).o j))]) ∧ Kp w1 w' :=
      fun w1 k1 => cget_any (A k) 34 (C.H k).o C.W hi.w2 (fun i hb => ((hi.ok k).out i hb).2.1) w1 (hA.kp k1).old (hA.kp k1).lt j
    clear h hi hn hin hA
    go_enter Tryd.func24, Tryd.ntmps24
    go_wp2_with fail
    refine hF.mono ?_; rintro e w1 ⟨rfl, k1⟩
    have hG1 := hG w1 k1
    have HK := hid k1
    clear hF hG k1
    unfold ptO
    go_wp2_with fail
    refine hG1.mono ?_; rintro e w2 ⟨rfl, k2⟩
    have HK2 := hid (HK.out.trans k2)
    clear hG1 k2
    go_wp2
    go_ret2
    exact ⟨rfl, HK2.out⟩

/-! ### Fill, Put -/
theorem rf_is (C : CS) (k j : Int) (n : Nat) : rfE C k j n = 0 ∨ rfE C k j n = 3 ∨ rfE C k j n = 4 := by
  unfold rfE
  split
  · exact .inr (.inl rfl)
  · split
    · exact .inr (.inr rfl)
    · exact .inl rfl
theorem us_is (C : CS) (k : Int) : usE C k = 0 ∨ usE C k = 10 := by
  unfold usE
  split
  · exact .inl rfl
  · split
    · split
      · exact .inl rfl
      · exact .inr rfl
    · exact .inl rfl
theorem pt_rf {C : CS} {k j : Int} {n : Nat} (h : rfE C k j n ≠ 0) : ptE C k j n = rfE C k j n := if_neg h
theorem pt_us {C : CS} {k j : Int} {n : Nat} (h : rfE C k j n = 0) : ptE C k j n = usE C k := if_pos h
theorem us_no {C : CS} {k : Int} (h : usE C k ≠ 0) : usC C k = C := by
  unfold usC
  cases hk : inT C.S k with
  | true => exact absurd (by unfold usE; rw [hk]; rfl) h
  | false => rw [if_neg (by decide), if_neg h]
set_option maxRecDepth 100000 in
set_option maxHeartbeats 2000000 in
theorem cfill (h : Ca w0 w c q C X) (hq : q < 999) (k j : Int) (s : ByteArray) : Calls Tryd.prog 10 #[.pointer (some ⟨c, 0, none⟩), .int .i64 k, .int .i64 j, .string s] w fun e w' => e = .returned (.int .i64 (ptE C k j s.size)) ∧ Ca w0 w' c (q + 1) (flC C k j s) X ∧ Lk X w w' := by
  obtain ⟨mb, tb, A, h, hi, hn⟩ := h
  have hR := refuses_any h k j s
  have HA : Hid (Ca w0 w c q C X) := ⟨mb, tb, A, h, hi, hn⟩
  by_cases h0 : rfE C k j s.size = 0
  · obtain ⟨hk, hj, hs⟩ := rf_ok.1 h0
    rw [h0] at hR
    have hU : ∀ w1, Kp w w1 → Calls Tryd.prog 29 #[.pointer (some ⟨c, 0, none⟩), .int .i64 k] w1 fun e w' => ∃ A', e = .returned (.tuple #[usV C A' k, .int .i64 (usE C k)]) ∧ CB w0 w' c mb tb A' (q + 1) (usC C k) X ∧ Lk X w1 w' := fun w1 k1 => use_any (h.kp k1).1 hi (by omega) hk
    rw [pt_us h0]
    by_cases he : usE C k = 0
    · obtain ⟨hi2, _⟩ := hi.use h.tu.g hk
      have HH : Hid (CB w0 w c mb tb A q C X ∧ Ci (flC C k j s) ∧ (flC C k j s).S.n ≤ q + 1 ∧ flC C k j s = { usC C k with H := upH (usC C k).H k (flH ((usC C k).H k) j s) } ∧ inT (usC C k).S k = true) := by
        have e : flC C k j s = { usC C k with H := upH (usC C k).H k (flH ((usC C k).H k) j s) } := by unfold flC; rw [if_pos (by rw [pt_us h0]; exact he)]
        refine ⟨h, hi.fill h.tu.g k j s, ?_, e, us_in h.tu.g he⟩
        rw [e]
        show (usC C k).S.n ≤ q + 1
        rw [us_n h.tu.g]; omega
      obtain ⟨hd, ehd⟩ : ∃ hd, hd = (usC C k).H k := ⟨_, rfl⟩
      obtain ⟨U, hU2⟩ : ∃ U, U = usC C k := ⟨_, rfl⟩
      obtain ⟨n, rfl⟩ : ∃ n : Nat, j = n := ⟨j.toNat, by omega⟩
      have hn30 : n < 30 := by have := hi.w2; omega
      have hHas : ∀ w1, Calls Tryd.prog 33 #[SV (sdF hd.d), .int .i64 n] w1 fun e w' => e = .returned (.bool (hd.d n)) ∧ Kp w1 w' := fun w1 => by
        have := has_anyL7 (sdF hd.d) n w1
        rw [has_sd hd.d (usC C k).W (by rw [us_W]; exact hi.w2) (fun i hb => by rw [ehd]; exact ((hi2.ok k).out i hb).2.2)] at this
        exact this
      have hf : flH hd n s = { hd with o := upS hd.o n s, n := if hd.d n then hd.n else upS hd.n n s } := rfl
      have hv : ∀ A', usV C A' k = .pointer (some ⟨A' k, 0, none⟩) := fun A' => if_pos he
      simp only [hv, he] at hU
      rw [he]
      rw [← ehd] at HH
      rw [← hU2] at HH hU
      have HE := hid (And.intro ehd hU2)
      clear h hi hn h0 hj he hi2 ehd hU2 hk HA hv
      go_enter Tryd.func10, Tryd.ntmps10
      go_wp2_with fail
      refine hR.mono ?_; rintro e w1 ⟨rfl, k1⟩
      have hU1 := hU w1 k1
      have HK := hid k1
      clear hR hU k1
      go_wp2_with fail
      refine hU1.mono ?_; rintro e w2 ⟨A', rfl, b2, l2⟩
      have hCl := b2.a k HH.out.2.2.2.2
      rw [show U.H k = hd from by rw [HE.out.1, HE.out.2]] at hCl
      have hO := cput_old (A' k) hd w2 hCl n hn30 s hs
      have HB := hid (And.intro b2 ((HH.out.1.kp HK.out).2.trans l2))
      clear hU1 b2 l2 HK hCl
      go_wp2_with fail
      refine hO.mono ?_; rintro e w3 ⟨rfl, cl3, s3⟩
      obtain ⟨d0, d1, d2, d3⟩ := cl3.dirty
      have hH3 := hHas w3
      unfold SV at hH3
      have HB3 := hid (And.intro (HB.out.1.held HH.out.2.2.2.2 s3 cl3) cl3)
      clear hO cl3 s3 hHas
      cases hdn : hd.d n with
      | true =>
        rw [hdn] at hH3 hf
        go_wp2_with fail
        refine hH3.mono ?_; rintro e w4 ⟨rfl, k4⟩
        have HN : Hid (Ca w0 w4 c (q + 1) (flC C k n s) X ∧ Lk X w w4) := by
          obtain ⟨q1, q2⟩ := HB3.out.1.1.kp k4
          refine ⟨⟨mb, tb, A', ?_, HH.out.2.1, HH.out.2.2.1⟩, HB.out.2.trans (HB3.out.1.2.trans q2)⟩
          rw [HH.out.2.2.2.1, hf]
          exact q1
        clear hH3 k4 d0 d1 d2 d3
        go_wp2
        go_ret
        exact ⟨rfl, HN.out⟩
      | false =>
        rw [hdn] at hH3 hf
        go_wp2_with fail
        refine hH3.mono ?_; rintro e w4 ⟨rfl, k4⟩
        have hN4 := cput_now (A' k) _ w4 (HB3.out.2.kp k4) n hn30 s hs
        have HB4 := hid (HB3.out.1.1.kp k4)
        clear hH3 k4 d0 d1 d2 d3
        go_wp2_with fail
        refine hN4.mono ?_; rintro e w5 ⟨rfl, cl5, s5⟩
        have HN : Hid (Ca w0 w5 c (q + 1) (flC C k n s) X ∧ Lk X w w5) := by
          obtain ⟨q1, q2⟩ := HB4.out.1.held HH.out.2.2.2.2 s5 cl5
          refine ⟨⟨mb, tb, A', ?_, HH.out.2.1, HH.out.2.2.1⟩, HB.out.2.trans (HB3.out.1.2.trans (HB4.out.2.trans q2))⟩
          rw [HH.out.2.2.2.1, hf]
          have q3 : CB w0 w5 c mb tb A' (q + 1) { U with H := upH (upH U.H k _) k _ } X := q1
          rw [upH_two] at q3
          exact q3
        clear hN4 cl5 s5
        go_wp2
        go_ret
        exact ⟨rfl, HN.out⟩
    · have h10 := (us_is C k).resolve_left he
      have HH : Hid (CB w0 w c mb tb A q C X ∧ Ci C ∧ C.S.n ≤ q ∧ flC C k j s = C ∧ usC C k = C) := ⟨h, hi, hn, by unfold flC; rw [if_neg (by rw [pt_us h0]; exact he)], us_no he⟩
      have hv : ∀ A', usV C A' k = .pointer none := fun A' => if_neg he
      simp only [hv, h10] at hU
      rw [h10]
      clear h hi hn h0 hj he hk hs h10 HA hv
      go_enter Tryd.func10, Tryd.ntmps10
      go_wp2_with fail
      refine hR.mono ?_; rintro e w1 ⟨rfl, k1⟩
      have hU1 := hU w1 k1
      have HK := hid k1
      clear hR hU k1
      go_wp2_with fail
      refine hU1.mono ?_; rintro e w2 ⟨A', rfl, b2, l2⟩
      have HN : Hid (Ca w0 w2 c (q + 1) (flC C k j s) X ∧ Lk X w w2) := by
        rw [HH.out.2.2.2.2] at b2
        refine ⟨?_, (HH.out.1.kp HK.out).2.trans l2⟩
        rw [HH.out.2.2.2.1]
        exact ⟨mb, tb, A', b2, HH.out.2.1, by have := HH.out.2.2.1; omega⟩
      clear hU1 b2 l2
      go_wp2
      go_ret
      exact ⟨rfl, HN.out⟩
  · have hR2 := (rf_is C k j s.size).resolve_left h0
    have HH : Hid (flC C k j s = C) := by show flC C k j s = C; unfold flC; rw [if_neg (by rw [pt_rf h0]; exact h0)]
    rw [pt_rf h0]
    obtain ⟨E, hE⟩ : ∃ E, E = rfE C k j s.size := ⟨_, rfl⟩
    rw [← hE] at hR hR2
    rw [← hE]
    have hne : (E != 0) = true := by rcases hR2 with rfl | rfl <;> rfl
    clear h hi hn h0 hE hR2
    go_enter Tryd.func10, Tryd.ntmps10
    go_wp2_with fail
    refine hR.mono ?_; rintro e w1 ⟨rfl, k1⟩
    have HK := hid k1
    clear hR k1
    go_wp2
    go_ret
    refine ⟨rfl, ?_⟩
    rw [HH.out]
    obtain ⟨q1, q2⟩ := HA.out.kp HK.out
    exact ⟨q1.up (Nat.le_succ _), q2⟩
end

end Go.Proofs.YtncdidklgpmefaaDoor
