/-
  Contracts of a cache's Put, Done, Drop, Have, Known. Conditions: that the object lies in memory, as caches come; that a stripe is an int; fewer than 999 changes.
-/
import Derived.Test.YtncdidklgpmefaaDoorCaCalls
namespace Go.Proofs.YtncdidklgpmefaaDoor
open Go.RowKit Plain Go.Maps Go.WideMaps
set_option linter.unusedVariables false

section
variable {w0 w w' w1 w2 w3 : World} {c mb tb q : Nat} {A : Int → Nat} {C : CS} {X : List Nat}
theorem cl_putD {b : Nat} {h : Hd} (k : Cl w b 72 (hc h)) (n : Nat) : Cl (pw4 w b 68 (wd (orF (sdF h.d) (oneF n)))) b 72 (hc { h with d := upB h.d n true }) := (k.pw4 (by omega) _).congr fun j hj => hc_putD h n j hj
theorem cl_noD {b : Nat} {h : Hd} (k : Cl w b 72 (hc h)) : Cl (pw4 w b 68 (wd noF)) b 72 (hc { h with d := fun _ => false }) := (k.pw4 (by omega) _).congr fun j hj => hc_noD h j hj
theorem pn_perm (S : TS) (k : Int) (on : Bool) : ((pnS S k on).P ++ (pnS S k on).D).Perm (S.P ++ S.D) := by
  rw [(pn_keys S k on).1, (pn_keys S k on).2]
set_option maxRecDepth 100000 in
set_option maxHeartbeats 2000000 in
theorem cput (h : Ca w0 w c q C X) (hq : q < 999) (k j : Int) (s : ByteArray) : Calls Tryd.prog 9 #[.pointer (some ⟨c, 0, none⟩), .int .i64 k, .int .i64 j, .string s] w fun e w' => e = .returned (.int .i64 (ptE C k j s.size)) ∧ Ca w0 w' c (q + 1) (ptC C k j s) X ∧ Lk X w w' := by
  obtain ⟨mb, tb, A, h, hi, hn⟩ := h
  have hR := refuses_any h k j s
  have HA : Hid (Ca w0 w c q C X) := ⟨mb, tb, A, h, hi, hn⟩
  by_cases h0 : rfE C k j s.size = 0
  · obtain ⟨hk, hj, hs⟩ := rf_ok.1 h0
    rw [h0] at hR
    have hU : ∀ w1, Kp w w1 → Calls Tryd.prog 29 #[.pointer (some ⟨c, 0, none⟩), .int .i64 k] w1 fun e w' => ∃ A', e = .returned (.tuple #[usV C A' k, .int .i64 (usE C k)]) ∧ CB w0 w' c mb tb A' (q + 1) (usC C k) X ∧ Lk X w1 w' := fun w1 k1 => use_any (h.kp k1).1 hi (by omega) hk
    rw [pt_us h0]
    by_cases he : usE C k = 0
    · have hun := us_n (C := C) h.tu.g k
      have HH : Hid (CB w0 w c mb tb A q C X ∧ Ci (ptC C k j s) ∧ (ptC C k j s).S.n ≤ q + 1 ∧ ptC C k j s = { usC C k with H := upH (usC C k).H k (ptH ((usC C k).H k) j s), S := pnS (usC C k).S k true } ∧ inT (usC C k).S k = true) := by
        have e : ptC C k j s = { usC C k with H := upH (usC C k).H k (ptH ((usC C k).H k) j s), S := pnS (usC C k).S k true } := by unfold ptC; rw [if_pos (by rw [pt_us h0]; exact he)]
        refine ⟨h, hi.put h.tu.g k j s, ?_, e, us_in h.tu.g he⟩
        rw [e]
        show (pnS (usC C k).S k true).n ≤ q + 1
        unfold pnS
        split
        · show (usC C k).S.n + 1 ≤ q + 1
          rw [hun]; omega
        · rw [hun]; omega
      obtain ⟨hd, ehd⟩ : ∃ hd, hd = (usC C k).H k := ⟨_, rfl⟩
      obtain ⟨U, hU2⟩ : ∃ U, U = usC C k := ⟨_, rfl⟩
      have hUn : U.S.n < 1000 := by rw [hU2, hun]; omega
      obtain ⟨n, rfl⟩ : ∃ n : Nat, j = n := ⟨j.toNat, by omega⟩
      have hn30 : n < 30 := by have := hi.w2; omega
      have hWith : ∀ w1, Calls Tryd.prog 31 #[SV (sdF hd.d), .int .i64 n] w1 fun e w' => e = .returned (SV (orF (sdF hd.d) (oneF n))) ∧ Kp w1 w' := fun w1 => with_any (sdF hd.d) n w1
      have hf : ptH hd n s = { hd with n := upS hd.n n s, d := upB hd.d n true } := rfl
      have hv : ∀ A', usV C A' k = .pointer (some ⟨A' k, 0, none⟩) := fun A' => if_pos he
      simp only [hv, he] at hU
      rw [he]
      rw [← ehd] at HH
      rw [← hU2] at HH hU
      have HE := hid (And.intro ehd (And.intro hU2 hUn))
      clear h hi hn h0 hj he ehd hU2 hk HA hv hun hUn
      go_enter Tryd.func9, Tryd.ntmps9
      go_wp2_with fail
      refine hR.mono ?_; rintro e w1 ⟨rfl, k1⟩
      have hU1 := hU w1 k1
      have HK := hid k1
      clear hR hU k1
      go_wp2_with fail
      refine hU1.mono ?_; rintro e w2 ⟨A', rfl, b2, l2⟩
      have hCl := b2.a k HH.out.2.2.2.2
      rw [show U.H k = hd from by rw [HE.out.1, HE.out.2.1]] at hCl
      have hO := cput_now (A' k) hd w2 hCl n hn30 s hs
      have HB := hid (And.intro b2 ((HH.out.1.kp HK.out).2.trans l2))
      clear hU1 b2 l2 HK hCl
      go_wp2_with fail
      refine hO.mono ?_; rintro e w3 ⟨rfl, cl3, s3⟩
      obtain ⟨d0, d1, d2, d3⟩ := cl3.dirty
      have hH3 := hWith w3
      unfold SV at hH3
      have HB3 := hid (And.intro (HB.out.1.held HH.out.2.2.2.2 s3 cl3) cl3)
      clear hO cl3 s3 hWith
      go_wp2_with fail
      refine hH3.mono ?_; rintro e w4 ⟨rfl, k4⟩
      obtain ⟨f, hff⟩ : ∃ f, f = orF (sdF hd.d) (oneF n) := ⟨_, rfl⟩
      have hb4 := HB3.out.1.1.kp k4
      have cl4 := HB3.out.2.kp k4
      obtain ⟨d0, d1, d2, d3⟩ := cl4.dirty
      have hz := cl4.z
      have cl5 := cl_putD cl4 n
      have s5 := (Sp.refl [A' k] w4).pw4 (off := 68) (wd (orF (sdF hd.d) (oneF n)))
      have hb5 := hb4.1.held HH.out.2.2.2.2 s5 cl5
      have c1 := hb5.1.cells.2.1
      have hP := hb5.1.tu.pin HE.out.2.2 k true
      have HB5 : Hid (CB w0 (pw4 w4 (A' k) 68 (wd (orF (sdF hd.d) (oneF n)))) c mb tb A' (q + 1) { U with H := upH U.H k (ptH hd n s) } X ∧ Lk X w (pw4 w4 (A' k) 68 (wd (orF (sdF hd.d) (oneF n))))) := by
        refine ⟨?_, HB.out.2.trans (HB3.out.1.2.trans (hb4.2.trans hb5.2))⟩
        have q3 : CB w0 _ c mb tb A' (q + 1) { U with H := upH (upH U.H k _) k _ } X := hb5.1
        rw [upH_two] at q3
        rw [hf]
        exact q3
      unfold pw4 at HB5 hP c1
      rw [← hff] at HB5 hP c1 ⊢
      clear hH3 k4 hff hb4 cl4 cl5 s5 hb5 HB3 HB
      go_wp2_with fail
      refine hP.mono ?_; rintro e w6 ⟨rfl, u, l⟩
      have HN : Hid (Ca w0 w6 c (q + 1) (ptC C k n s) X ∧ Lk X w w6) := by
        obtain ⟨q1, q2⟩ := HB5.out.1.turn u l (pn_perm _ _ _)
        refine ⟨⟨mb, tb, A', ?_, HH.out.2.1, HH.out.2.2.1⟩, HB5.out.2.trans q2⟩
        rw [HH.out.2.2.2.1]
        exact q1
      clear hP u l c1 d0 d1 d2 d3 hz
      go_wp2
      go_ret
      exact ⟨rfl, HN.out⟩
    · have h10 := (us_is C k).resolve_left he
      have HH : Hid (CB w0 w c mb tb A q C X ∧ Ci C ∧ C.S.n ≤ q ∧ ptC C k j s = C ∧ usC C k = C) := ⟨h, hi, hn, by unfold ptC; rw [if_neg (by rw [pt_us h0]; exact he)], us_no he⟩
      have hv : ∀ A', usV C A' k = .pointer none := fun A' => if_neg he
      simp only [hv, h10] at hU
      rw [h10]
      clear h hi hn h0 hj he hk hs h10 HA hv
      go_enter Tryd.func9, Tryd.ntmps9
      go_wp2_with fail
      refine hR.mono ?_; rintro e w1 ⟨rfl, k1⟩
      have hU1 := hU w1 k1
      have HK := hid k1
      clear hR hU k1
      go_wp2_with fail
      refine hU1.mono ?_; rintro e w2 ⟨A', rfl, b2, l2⟩
      have HN : Hid (Ca w0 w2 c (q + 1) (ptC C k j s) X ∧ Lk X w w2) := by
        rw [HH.out.2.2.2.2] at b2
        refine ⟨?_, (HH.out.1.kp HK.out).2.trans l2⟩
        rw [HH.out.2.2.2.1]
        exact ⟨mb, tb, A', b2, HH.out.2.1, by have := HH.out.2.2.1; omega⟩
      clear hU1 b2 l2
      go_wp2
      go_ret
      exact ⟨rfl, HN.out⟩
  · have hR2 := (rf_is C k j s.size).resolve_left h0
    have HH : Hid (ptC C k j s = C) := by show ptC C k j s = C; unfold ptC; rw [if_neg (by rw [pt_rf h0]; exact h0)]
    rw [pt_rf h0]
    obtain ⟨E, hE⟩ : ∃ E, E = rfE C k j s.size := ⟨_, rfl⟩
    rw [← hE] at hR hR2
    rw [← hE]
    have hne : (E != 0) = true := by rcases hR2 with rfl | rfl <;> rfl
    clear h hi hn h0 hE hR2
    go_enter Tryd.func9, Tryd.ntmps9
    go_wp2_with fail
    refine hR.mono ?_; rintro e w1 ⟨rfl, k1⟩
    have HK := hid k1
    clear hR k1
    go_wp2
    go_ret
    refine ⟨rfl, ?_⟩
    rw [HH.out]
    obtain ⟨q1, q2⟩ := HA.out.kp HK.out
    exact ⟨q1.up (Nat.le_succ _), q2⟩

/-! ### Done, Drop -/
theorem inL_nil : inL [] = noF := rfl
set_option maxRecDepth 100000 in
set_option maxHeartbeats 2000000 in
theorem cdone (h : Ca w0 w c q C X) (hq : q < 999) {k : Int} (hk : iOk k) : Calls Tryd.prog 11 #[.pointer (some ⟨c, 0, none⟩), .int .i64 k] w fun e w' => e = .returned (.bool (inT C.S k)) ∧ Ca w0 w' c (q + 1) (dnC C k) X ∧ Lk X w w' := by
  obtain ⟨mb, tb, A, h, hi, hn⟩ := h
  have hF := find_any h hk
  cases hin : inT C.S k with
  | false =>
    rw [hin, at_out hin] at hF
    have HH : Hid (Ca w0 w c q C X ∧ dnC C k = C) := ⟨⟨mb, tb, A, h, hi, hn⟩, by unfold dnC; rw [hin, if_neg (by decide)]⟩
    clear h hi hn hin
    go_enter Tryd.func11, Tryd.ntmps11
    go_wp2_with fail
    refine hF.mono ?_; rintro e w1 ⟨rfl, k1⟩
    have HK := hid k1
    clear hF k1
    go_wp2
    go_ret
    refine ⟨rfl, ?_⟩
    rw [HH.out.2]
    obtain ⟨q1, q2⟩ := HH.out.1.kp HK.out
    exact ⟨q1.up (Nat.le_succ _), q2⟩
  | true =>
    rw [hin, at_in hin] at hF
    have HH : Hid (CB w0 w c mb tb A q C X ∧ Ci (dnC C k) ∧ (dnC C k).S.n ≤ q + 1 ∧ dnC C k = { C with H := upH C.H k (dnH (C.H k)), S := pnS C.S k false } ∧ inT C.S k = true ∧ C.S.n < 1000) := by
      have e : dnC C k = { C with H := upH C.H k (dnH (C.H k)), S := pnS C.S k false } := by unfold dnC; rw [hin, if_pos rfl]
      refine ⟨h, hi.done k, ?_, e, hin, by omega⟩
      rw [e]
      show (pnS C.S k false).n ≤ q + 1
      unfold pnS
      rw [if_pos hin]
      show C.S.n + 1 ≤ q + 1
      omega
    have hCl := h.a k hin
    obtain ⟨hd, ehd⟩ : ∃ hd, hd = C.H k := ⟨_, rfl⟩
    rw [← ehd] at hCl HH
    have HE := hid ehd
    have HC := hid hCl
    have hOf : ∀ w1, Calls Tryd.prog 34 #[.slice none 0 0] w1 fun e w' => e = .returned (SV noF) ∧ Kp w1 w' := fun w1 => of_any _ [] w1 (IntsIn.empty none 0 (Nat.zero_le _))
    clear h hi hn hin ehd hCl
    go_enter Tryd.func11, Tryd.ntmps11
    go_wp2_with fail
    refine hF.mono ?_; rintro e w1 ⟨rfl, k1⟩
    have hO := hOf w1
    have HK := hid k1
    clear hF hOf k1
    unfold ptO
    go_wp2_with fail
    refine hO.mono ?_; rintro e w2 ⟨rfl, k2⟩
    have HK2 := hid (HK.out.trans k2)
    have cl2 := HC.out.kp HK2.out
    obtain ⟨d0, d1, d2, d3⟩ := cl2.dirty
    have hz := cl2.z
    have cl3 := cl_noD cl2
    have s3 := (Sp.refl [A k] w2).pw4 (off := 68) (wd noF)
    unfold pw4 at cl3 s3
    obtain ⟨f, hff⟩ : ∃ f, f = noF := ⟨_, rfl⟩
    rw [← hff] at cl3 s3
    obtain ⟨V, hV⟩ : ∃ V, V = (((w2.setCell ⟨A k, 68, none⟩ (.int .u64 (wd f 0 : Nat))).setCell ⟨A k, 68 + 1, none⟩ (.int .u64 (wd f 1 : Nat))).setCell ⟨A k, 68 + 2, none⟩ (.int .u64 (wd f 2 : Nat))).setCell ⟨A k, 68 + 3, none⟩ (.int .u64 (wd f 3 : Nat)) := ⟨_, rfl⟩
    rw [← hV] at cl3 s3
    have hr : V.rangeAt (A k) 0 (ccL hd.n) := cl3.now.range
    have ht : V.there (A k) 34 34 := cl3.there 34 34 (by omega)
    have cl4 := cl3.olds
    have s4 := Sp.setCells (T := [A k]) (A k) (by simp) (ccL hd.n) 34 _ s3
    obtain ⟨b2, l2⟩ := HH.out.1.kp HK2.out
    obtain ⟨b4, l4⟩ := b2.held HH.out.2.2.2.2.1 s4 cl4
    have c1 := b4.cells.2.1
    have hP := b4.tu.pin HH.out.2.2.2.2.2 k false
    obtain ⟨Z, hZ⟩ : ∃ Z, Z = V.setCells (A k) 34 (ccL hd.n) := ⟨_, rfl⟩
    have HB := hid (And.intro b4 (l2.trans l4))
    have HR := hid (And.intro hr ht)
    have HV := hid (And.intro hV hZ)
    rw [← hZ] at hP HB c1
    have hff2 : ∀ k, wd noF k = wd f k := fun k => by rw [hff]
    unfold SV
    simp only [hff2]
    clear hO k2 cl2 cl3 s3 hff hV hr ht cl4 s4 b2 l2 b4 l4 hZ hff2 HK2 HK
    go_upto_region 5 with fail
    rw [← HV.out.1]
    go_wp2_with (first | refine wpList_load_mid rfl 70 _ rfl (A k) 0 rfl (ccL hd.n) _ HR.out.1 Tryd.underlying70 rfl (by rw [ccL_len]; kernel_rfl) ?_ | refine wpList_store_mid rfl 70 _ _ rfl (A k) 34 (ccL hd.n).toArray rfl rfl (by simpa [ccL_len] using HR.out.2) (by rw [List.size_toArray, ccL_len]; kernel_rfl) (all_oneCell_toArray (ccL_one _)) ?_; rw [List.toList_toArray, ← HV.out.2])
    refine hP.mono ?_; rintro e w5 ⟨rfl, u, l⟩
    have HN : Hid (Ca w0 w5 c (q + 1) (dnC C k) X ∧ Lk X w w5) := by
      obtain ⟨q1, q2⟩ := HB.out.1.turn u l (pn_perm _ _ _)
      refine ⟨⟨mb, tb, A, ?_, HH.out.2.1, HH.out.2.2.1⟩, HB.out.2.trans q2⟩
      rw [HH.out.2.2.2.1]
      exact q1.more (Nat.le_succ _)
    clear hP u l c1 HR HV d0 d1 d2 d3 hz
    go_wp2
    go_ret
    refine ⟨?_, HN.out⟩
    rfl
set_option maxRecDepth 100000 in
set_option maxHeartbeats 2000000 in
theorem cdrop (h : Ca w0 w c q C X) {k : Int} (hk : iOk k) : Calls Tryd.prog 12 #[.pointer (some ⟨c, 0, none⟩), .int .i64 k] w fun e w' => e = .returned (.bool (dpB C k)) ∧ Ca w0 w' c q (dpC C k) X ∧ Lk X w w' := by
  obtain ⟨mb, tb, A, h, hi, hn⟩ := h
  have hF := find_any h hk
  cases hin : inT C.S k with
  | false =>
    rw [hin, at_out hin] at hF
    have e0 : dpB C k = false := by unfold dpB; rw [hin]; rfl
    have HH : Hid (Ca w0 w c q C X ∧ dpC C k = C) := ⟨⟨mb, tb, A, h, hi, hn⟩, by unfold dpC; rw [e0, if_neg (by decide)]⟩
    rw [e0]
    clear h hi hn hin e0
    go_enter Tryd.func12, Tryd.ntmps12
    go_wp2_with fail
    refine hF.mono ?_; rintro e w1 ⟨rfl, k1⟩
    have HK := hid k1
    clear hF k1
    go_wp2
    go_ret
    refine ⟨rfl, ?_⟩
    rw [HH.out.2]
    exact HH.out.1.kp HK.out
  | true =>
    rw [hin, at_in hin] at hF
    obtain ⟨hd, ehd⟩ : ∃ hd, hd = C.H k := ⟨_, rfl⟩
    have hE : ∀ w1, Calls Tryd.prog 35 #[SV (sdF hd.d)] w1 fun e w' => e = .returned (.bool (emB (sdF hd.d))) ∧ Kp w1 w' := fun w1 => empty_any _ w1
    have hCl := h.a k hin
    rw [← ehd] at hCl
    have HC := hid hCl
    have hb : dpB C k = emB (sdF hd.d) := by unfold dpB dyH; rw [hin, ← ehd]; simp
    cases hem : emB (sdF hd.d) with
    | false =>
      rw [hem] at hE hb
      have HH : Hid (Ca w0 w c q C X ∧ dpC C k = C) := ⟨⟨mb, tb, A, h, hi, hn⟩, by unfold dpC; rw [hb, if_neg (by decide)]⟩
      rw [hb]
      clear h hi hn hin hCl hem hb ehd
      go_enter Tryd.func12, Tryd.ntmps12
      go_wp2_with fail
      refine hF.mono ?_; rintro e w1 ⟨rfl, k1⟩
      have hE1 := hE w1
      have HK := hid k1
      obtain ⟨d0, d1, d2, d3⟩ := (HC.out.kp k1).dirty
      unfold SV at hE1
      clear hF hE k1
      unfold ptO
      go_wp2_with fail
      refine hE1.mono ?_; rintro e w2 ⟨rfl, k2⟩
      have HK2 := hid (HK.out.trans k2)
      clear hE1 k2 d0 d1 d2 d3
      go_wp2
      go_ret
      refine ⟨rfl, ?_⟩
      rw [HH.out.2]
      exact HH.out.1.kp HK2.out
    | true =>
      rw [hem] at hE hb
      have HH : Hid (CB w0 w c mb tb A q C X ∧ inT C.S k = true ∧ Ci (dpC C k) ∧ (dpC C k).S.n ≤ q ∧ dpC C k = { C with S := drS C.S k, H := upH C.H k hd0 }) := by
        have e : dpC C k = { C with S := drS C.S k, H := upH C.H k hd0 } := by unfold dpC; rw [hb, if_pos rfl]
        refine ⟨h, hin, hi.dropped h.tu.g k, ?_, e⟩
        rw [e]
        show (drS C.S k).n ≤ q
        rw [(dr_K k hin).2.2]
        exact hn
      rw [hb]
      clear h hi hn hin hCl hem hb ehd
      go_enter Tryd.func12, Tryd.ntmps12
      go_wp2_with fail
      refine hF.mono ?_; rintro e w1 ⟨rfl, k1⟩
      have hE1 := hE w1
      have HK := hid k1
      obtain ⟨d0, d1, d2, d3⟩ := (HC.out.kp k1).dirty
      unfold SV at hE1
      clear hF hE k1
      unfold ptO
      go_wp2_with fail
      refine hE1.mono ?_; rintro e w2 ⟨rfl, k2⟩
      have HB := hid (HH.out.1.kp (HK.out.trans k2))
      have hG := forget_any HB.out.1 HH.out.2.1
      clear hE1 k2 d0 d1 d2 d3 HK
      go_wp2_with fail
      refine hG.mono ?_; rintro e w3 ⟨rfl, b3, l3⟩
      have HN : Hid (Ca w0 w3 c q (dpC C k) X ∧ Lk X w w3) := by
        refine ⟨⟨mb, tb, A, ?_, HH.out.2.2.1, HH.out.2.2.2.1⟩, HB.out.2.trans l3⟩
        rw [HH.out.2.2.2.2]
        exact b3
      clear hG b3 l3
      go_wp2
      go_ret
      exact ⟨rfl, HN.out⟩
end

end Go.Proofs.YtncdidklgpmefaaDoor
