/-
  Contract of the laws' states: the program's and the document's state of plain data. Condition: that the data are of 64 bits.
-/
import Derived.Test.YtffbachgbcefiaaDoorPsSm
namespace Go.Proofs.YtffbachgbcefiaaDoor
open Go.RowKit Plain
set_option linter.unusedVariables false
set_option linter.unusedSimpArgs false

set_option maxRecDepth 100000 in
set_option maxHeartbeats 8000000 in
theorem states_any (x : RX) (hx : x.Ok) (w : World) : Calls Tryd.prog 6 #[rxV x] w fun e w' => e = .returned (.tuple #[PV x.ps, .agg (rsA x.D (bt x.y) (bt x.h) (bt x.k) (bt x.l) (rxO x))]) ∧ Kp w w' := by
  obtain ⟨wa, hwa⟩ : ∃ wa, wa = w.alloc (.cells (rxA x) 24) := ⟨_, rfl⟩
  obtain ⟨wb, hwb⟩ : ∃ wb, wb = wa.alloc (.cells (psA z17) 30) := ⟨_, rfl⟩
  obtain ⟨w0, hw0⟩ : ∃ w0, w0 = wb.alloc (.cells (rsA 0 noF noF noF noF false) 33) := ⟨_, rfl⟩
  have sa : wa.heap.size = w.heap.size + 1 := by rw [hwa]; simp
  have sb : wb.heap.size = w.heap.size + 2 := by rw [hwb]; simp [sa]
  have h0 : Ia w w0 x := by
    have k1 : Kp wa w0 := by rw [hw0, hwb]; exact ((Kp.refl _).alloc _).alloc _
    have k2 : Kp wb w0 := by rw [hw0]; exact (Kp.refl _).alloc _
    refine ⟨?_, ?_, ?_, ?_⟩
    · have := Rw.new w x
      rw [← hwa] at this
      exact this.kept k1
    · have := Qx.new wa z17
      rw [← hwb, sa] at this
      exact this.kept k2
    · have := Rb.new wb 0 noF noF noF noF false
      rw [← hw0, sb] at this
      exact this
    · have : Kp w wa := by rw [hwa]; exact (Kp.refl w).alloc _
      exact this.trans k1
  have h1 : Ia w w0.drew x := h0.kept (Kp.refl w0).drew
  have HW := hid (And.intro hwa (And.intro hwb hw0))
  have hz := zero_rs
  have hy := zero_ps
  clear hwa hwb hw0 sa sb h0
  go_enter Tryd.func6, Tryd.ntmps6
  go_upto_region 1 with fail
  change Code.wp _ _ _ _ (((w.alloc (.cells (rxA x) 24)).alloc (.cells (psA z17) 30)).alloc (.cells (rsA 0 noF noF noF noF false) 33))
  rw [← show wa = w.alloc (.cells (rxA x) 24) from HW.out.1, ← show wb = wa.alloc (.cells (psA z17) 30) from HW.out.2.1, ← show w0 = wb.alloc (.cells (rsA 0 noF noF noF noF false) 33) from HW.out.2.2]
  clear HW
  rename_i Q' K0 cont
  have HK : ∀ X c, Ja w X x c x.ps → K0 ⟨#[rxV x, .pointer (some ⟨w.heap.size, 0, none⟩), .pointer (some ⟨w.heap.size + 1, 0, none⟩), .pointer (some ⟨w.heap.size + 2, 0, none⟩), .pointer (some ⟨c, 0, none⟩), undef, undef, .pointer (some ⟨w.heap.size, 0, none⟩), .int .i64 x.D, .pointer (some ⟨w.heap.size, 1, none⟩), .int .u64 (x.y : Nat), SV (bt x.y), .pointer (some ⟨w.heap.size, 2, none⟩), .int .u64 (x.h : Nat), SV (bt x.h), .pointer (some ⟨w.heap.size, 3, none⟩), .int .u64 (x.k : Nat), SV (bt x.k), .pointer (some ⟨w.heap.size, 4, none⟩), .int .u64 (x.l : Nat), SV (bt x.l), PV x.ps, undef, undef, undef, undef, undef, undef, undef, undef, undef, undef, undef, undef, undef, undef, undef, undef, undef, undef, undef, undef, undef, undef, undef, undef, undef, undef, undef, undef, undef, undef, undef, undef, undef, undef, undef, undef, undef, undef, undef, undef, undef, undef, undef, undef, undef, undef, undef, undef, undef, undef, undef, undef], []⟩ X := by
    intro X c hj
    refine cont _ _ ?_
    clear cont h1
    obtain ⟨d, hd⟩ : ∃ d, d = X.heap.size := ⟨_, rfl⟩
    obtain ⟨Xa, hXa⟩ : ∃ V, V = X.alloc (.cells (rsA 0 noF noF noF noF false) 33) := ⟨_, rfl⟩
    have ja : Ja w Xa x c x.ps := by rw [hXa]; exact hj.kept ((Kp.refl _).alloc _)
    have ra : Rb Xa d 0 noF noF noF noF false := by rw [hXa, hd]; exact Rb.new X 0 noF noF noF noF false
    have hc1 := hj.c1
    have hcs := hj.s.lt
    have sXa : Xa.heap.size = d + 1 := by rw [hXa, hd]; simp
    obtain ⟨Xb, hXb⟩ : ∃ V, V = Xa.setCells d 0 (rsL x.D noF noF noF noF false) := ⟨_, rfl⟩
    have jb : Ja w Xb x c x.ps := by rw [hXb]; exact ja.far (by omega) (by omega) _ _
    have rb : Rb Xb d x.D noF noF noF noF false := by rw [hXb]; exact ra.set x.D noF noF noF noF false
    have sXb : Xb.heap.size = d + 1 := by rw [hXb, World.size_setCells, sXa]
    obtain ⟨e, he⟩ : ∃ e, e = Xb.heap.size := ⟨_, rfl⟩
    obtain ⟨Z0, hZ0⟩ : ∃ V, V = Xb.alloc (.cells #[.bool false, .bool false, .bool false, .bool false] 62) := ⟨_, rfl⟩
    have k0 : Ka w Z0 x c d e noF noF noF noF false false false false false := by
      have q : Kp Xb Z0 := by rw [hZ0]; exact (Kp.refl _).alloc _
      exact ⟨jb.kept q, by omega, by omega, by omega, by omega, by omega, rb.kept q, by rw [hZ0, he]; exact B4.new Xb _⟩
    have hDc := hj.i.r.c.1
    have HX := hid (And.intro hXa (And.intro hXb hZ0))
    have hth := hid ra.there
    have HD := hid hd
    have HE := hid he
    have hz := zero_rs
    clear hj ja ra hc1 hcs sXa jb rb sXb hXa hXb hZ0 hd he
    go_upto_region 4 with (first
      | (refine wl_brs rfl rfl rfl ?_)
      | (change wpList _ _ _ _ _ (X.alloc (.cells (rsA 0 noF noF noF noF false) 33)); rw [← show Xa = X.alloc (.cells (rsA 0 noF noF noF noF false) 33) from HX.out.1, ← show d = X.heap.size from HD.out]; refine wl_rsstore rfl rfl rfl rfl rfl hth.out ?_; rw [← show Xb = Xa.setCells d 0 (rsL x.D noF noF noF noF false) from HX.out.2.1]))
    rw [← show e = Xb.heap.size from HE.out, ← show Z0 = Xb.alloc (.cells #[.bool false, .bool false, .bool false, .bool false] 62) from HX.out.2.2]
    clear HX hth HD HE hz hDc
    have hb0 := bits_any x.y hx.y Z0
    have H0 := hid k0
    obtain ⟨c_0, c_1, c_2, c_3, c_4⟩ := H0.out.j.i.r.c
    have HX0 := hid hx
    clear k0 hx
    go_wp2_with fail
    refine hb0.mono ?_; rintro e_ Y0 ⟨rfl, p0⟩
    have q0 := H0.out.kept p0
    obtain ⟨U0, hU0⟩ : ∃ V, V = Y0.setCells d 1 (b32A (bt x.y)).toList := ⟨_, rfl⟩
    have r0 := q0.sy (bt x.y)
    rw [← hU0] at r0
    have ht0 := hid (there_of (b32_len _) q0.d.y q0.d.z)
    obtain ⟨Z1, hZ1⟩ : ∃ V, V = U0.setCell ⟨e, 0, none⟩ (.bool (oddB x.y)) := ⟨_, rfl⟩
    have t0 := r0.s0 (oddB x.y)
    rw [← hZ1] at t0
    have e_c := r0.e.c0
    have e_z := r0.e.z 0
    have HU0 := hid (And.intro hU0 hZ1)
    have T0 := hid t0
    clear hb0 p0 q0 r0 hU0 hZ1 c_0 c_1 c_2 c_3 c_4 H0 t0
    go_upto_region 5 with (refine wl_b32s (f := bt x.y) rfl rfl rfl rfl rfl ht0.out ?_; rw [← show U0 = Y0.setCells d 1 (b32A (bt x.y)).toList from HU0.out.1])
    rw [← show Z1 = U0.setCell ⟨e, 0, none⟩ (.bool (oddB x.y)) from HU0.out.2]
    have t0 := T0.out
    have hx := HX0.out
    clear HU0 ht0 e_c e_z T0 HX0
    have hb1 := bits_any x.h hx.h Z1
    have H1 := hid t0
    obtain ⟨c_0, c_1, c_2, c_3, c_4⟩ := H1.out.j.i.r.c
    have HX1 := hid hx
    clear t0 hx
    go_wp2_with fail
    refine hb1.mono ?_; rintro e_ Y1 ⟨rfl, p1⟩
    have q1 := H1.out.kept p1
    obtain ⟨U1, hU1⟩ : ∃ V, V = Y1.setCells d 33 (b32A (bt x.h)).toList := ⟨_, rfl⟩
    have r1 := q1.sh (bt x.h)
    rw [← hU1] at r1
    have ht1 := hid (there_of (b32_len _) q1.d.h q1.d.z)
    obtain ⟨Z2, hZ2⟩ : ∃ V, V = U1.setCell ⟨e, 1, none⟩ (.bool (oddB x.h)) := ⟨_, rfl⟩
    have t1 := r1.s1 (oddB x.h)
    rw [← hZ2] at t1
    have e_c := r1.e.c1
    have e_z := r1.e.z 1
    have HU1 := hid (And.intro hU1 hZ2)
    have T1 := hid t1
    clear hb1 p1 q1 r1 hU1 hZ2 c_0 c_1 c_2 c_3 c_4 H1 t1
    go_upto_region 6 with (refine wl_b32s (f := bt x.h) rfl rfl rfl rfl rfl ht1.out ?_; rw [← show U1 = Y1.setCells d 33 (b32A (bt x.h)).toList from HU1.out.1])
    rw [← show Z2 = U1.setCell ⟨e, 1, none⟩ (.bool (oddB x.h)) from HU1.out.2]
    have t1 := T1.out
    have hx := HX1.out
    clear HU1 ht1 e_c e_z T1 HX1
    have hb2 := bits_any x.k hx.k Z2
    have H2 := hid t1
    obtain ⟨c_0, c_1, c_2, c_3, c_4⟩ := H2.out.j.i.r.c
    have HX2 := hid hx
    clear t1 hx
    go_wp2_with fail
    refine hb2.mono ?_; rintro e_ Y2 ⟨rfl, p2⟩
    have q2 := H2.out.kept p2
    obtain ⟨U2, hU2⟩ : ∃ V, V = Y2.setCells d 65 (b32A (bt x.k)).toList := ⟨_, rfl⟩
    have r2 := q2.sk (bt x.k)
    rw [← hU2] at r2
    have ht2 := hid (there_of (b32_len _) q2.d.k q2.d.z)
    obtain ⟨Z3, hZ3⟩ : ∃ V, V = U2.setCell ⟨e, 2, none⟩ (.bool (oddB x.k)) := ⟨_, rfl⟩
    have t2 := r2.s2 (oddB x.k)
    rw [← hZ3] at t2
    have e_c := r2.e.c2
    have e_z := r2.e.z 2
    have HU2 := hid (And.intro hU2 hZ3)
    have T2 := hid t2
    clear hb2 p2 q2 r2 hU2 hZ3 c_0 c_1 c_2 c_3 c_4 H2 t2
    go_upto_region 7 with (refine wl_b32s (f := bt x.k) rfl rfl rfl rfl rfl ht2.out ?_; rw [← show U2 = Y2.setCells d 65 (b32A (bt x.k)).toList from HU2.out.1])
    rw [← show Z3 = U2.setCell ⟨e, 2, none⟩ (.bool (oddB x.k)) from HU2.out.2]
    have t2 := T2.out
    have hx := HX2.out
    clear HU2 ht2 e_c e_z T2 HX2
    have hb3 := bits_any x.l hx.l Z3
    have H3 := hid t2
    obtain ⟨c_0, c_1, c_2, c_3, c_4⟩ := H3.out.j.i.r.c
    have HX3 := hid hx
    clear t2 hx
    go_wp2_with fail
    refine hb3.mono ?_; rintro e_ Y3 ⟨rfl, p3⟩
    have q3 := H3.out.kept p3
    obtain ⟨U3, hU3⟩ : ∃ V, V = Y3.setCells d 97 (b32A (bt x.l)).toList := ⟨_, rfl⟩
    have r3 := q3.sl (bt x.l)
    rw [← hU3] at r3
    have ht3 := hid (there_of (b32_len _) q3.d.l q3.d.z)
    obtain ⟨Z4, hZ4⟩ : ∃ V, V = U3.setCell ⟨e, 3, none⟩ (.bool (oddB x.l)) := ⟨_, rfl⟩
    have t3 := r3.s3 (oddB x.l)
    rw [← hZ4] at t3
    have e_c := r3.e.c3
    have e_z := r3.e.z 3
    have HU3 := hid (And.intro hU3 hZ4)
    have T3 := hid t3
    clear hb3 p3 q3 r3 hU3 hZ4 c_0 c_1 c_2 c_3 c_4 H3 t3
    go_upto_region 8 with (refine wl_b32s (f := bt x.l) rfl rfl rfl rfl rfl ht3.out ?_; rw [← show U3 = Y3.setCells d 97 (b32A (bt x.l)).toList from HU3.out.1])
    rw [← show Z4 = U3.setCell ⟨e, 3, none⟩ (.bool (oddB x.l)) from HU3.out.2]
    have t3 := T3.out
    have hx := HX3.out
    clear HU3 ht3 e_c e_z T3 HX3
    cases o0 : oddB x.y with
    | true =>
      have HP := hid (show (true) = rxO x by unfold rxO; rw [o0]; rfl)
      obtain ⟨ox, hox⟩ : ∃ b, b = (true) := ⟨_, rfl⟩
      obtain ⟨Z5, hZ5⟩ : ∃ V, V = Z4.setCell ⟨d, 129, none⟩ (.bool (true)) := ⟨_, rfl⟩
      have t5 := t3.so (true)
      rw [← hZ5] at t5
      have c_0 := t3.e.c0
      have c_1 := t3.e.c1
      have c_2 := t3.e.c2
      have c_3 := t3.e.c3
      rw [o0] at c_0
      skip
      skip
      have d_c := t3.d.o
      have d_z := t3.d.z 129
      have HZ5 := hid hZ5
      have T5 := hid t5
      clear t3 hZ5 t5 hox
      go_upto_region 9 with fail
      rw [← show Z5 = Z4.setCell ⟨d, 129, none⟩ (.bool (true)) from HZ5.out]
      have t5 := T5.out
      clear HZ5 T5 c_0 c_1 c_2 c_3 d_c d_z
      rw [HP.out] at t5
      clear HP
      have kd := (Kp.refl Z5).drew
      have t6 := t5.kept kd
      obtain ⟨V1, hV1⟩ : ∃ V, V = Z5.drew.setCells (w.heap.size + 1) 0 (psA x.ps).toList := ⟨_, rfl⟩
      obtain ⟨V2, hV2⟩ : ∃ V, V = V1.setCells (w.heap.size + 2) 0 (rsL x.D (bt x.y) (bt x.h) (bt x.k) (bt x.l) (rxO x)) := ⟨_, rfl⟩
      have hc1 := t6.j.c1
      have hd1 := t6.d1
      have q1 : Qx V1 (w.heap.size + 1) x.ps := by rw [hV1]; exact t6.j.i.q.set x.ps
      have d1 : Rb V1 (w.heap.size + 2) 0 noF noF noF noF false := by rw [hV1]; exact t6.j.i.d.far (by omega) _ _
      have s1 : V1.rangeAt c 0 (psA x.ps).toList ∧ V1.rangeAt d 0 (rsL x.D (bt x.y) (bt x.h) (bt x.k) (bt x.l) (rxO x)) := by rw [hV1]; exact ⟨(t6.j.s.far (by omega) _ _).range, (t6.d.far (by omega) _ _).whole⟩
      have k1 : Kp w V1 := by rw [hV1]; exact kp_setCells t6.j.i.kp _ _ (by omega) _
      have q2 : Qx V2 (w.heap.size + 1) x.ps := by rw [hV2]; exact q1.far (by omega) _ _
      have d2 : Rb V2 (w.heap.size + 2) x.D (bt x.y) (bt x.h) (bt x.k) (bt x.l) (rxO x) := by rw [hV2]; exact d1.set ..
      have s2 : V2.rangeAt c 0 (psA x.ps).toList ∧ V2.rangeAt d 0 (rsL x.D (bt x.y) (bt x.h) (bt x.k) (bt x.l) (rxO x)) := by
        rw [hV2]
        exact ⟨World.rangeAt_setCells_apart s1.1 _ _ _ (.inl (by omega)), World.rangeAt_setCells_apart s1.2 _ _ _ (.inl (by omega))⟩
      have k2 : Kp w V2 := by rw [hV2]; exact kp_setCells k1 _ _ (by omega) _
      have h1 : Z5.drew.rangeAt c 0 (psA x.ps).toList ∧ Z5.drew.rangeAt d 0 (rsL x.D (bt x.y) (bt x.h) (bt x.k) (bt x.l) (rxO x)) := ⟨t6.j.s.range, t6.d.whole⟩
      have th1 := t6.j.i.q.there
      have th2 := d1.there
      have HE := hid (And.intro q2 (And.intro d2 k2))
      clear t5 t6 hc1 hd1 q1 d1 k1 q2 d2 k2 kd
      refine wp_region_held_drew (S := fun X => X.rangeAt c 0 (psA x.ps).toList ∧ X.rangeAt d 0 (rsL x.D (bt x.y) (bt x.h) (bt x.k) (bt x.l) (rxO x))) (by kernel_rfl) (h1) (fun hHeld => ?_)
      change wpAnyH _ _ _ _ _ 4 #[false, false, false, false] _ _
      refine wpAnyH_takeD (i := 0) (oi := _) (v := _) 72 rfl (by rfl) (by kernel_rfl) (by kernel_rfl) (by kernel_rfl) (fun _ _ _ h => h) (yl_qs (by rfl) (by rfl) (by rfl) (fun _ h => h.1)) (by assumption) ?_
      try simp only [Act.put, List.setIfInBounds_toArray, List.set_cons_zero, List.set_cons_succ]
      change wpAnyH _ _ _ _ _ 3 #[true, false, false, false] _ _
      refine wpAnyH_takeD (i := 1) (oi := _) (v := _) 73 rfl (by rfl) (by kernel_rfl) (by kernel_rfl) (by kernel_rfl) (fun _ _ _ h => h) (yl_rs (by rfl) (by rfl) (by rfl) (fun _ h => h.2)) (by assumption) ?_
      try simp only [Act.put, List.setIfInBounds_toArray, List.set_cons_zero, List.set_cons_succ]
      change wpAnyH _ _ _ _ _ 2 #[true, true, false, false] _ _
      have k1 := s1
      refine wpAnyH_qstore 2 x.ps V1 (by kernel_rfl) rfl (by rfl) (by rfl) (by rfl) (by rfl) (by rfl) th1 hV1 (k1) (fun hHeld => ?_)
      change wpAnyH _ _ _ _ _ 1 #[true, true, true, false] _ _
      have k2 := s2
      refine wpAnyH_store_g 3 33 (rsA x.D (bt x.y) (bt x.h) (bt x.k) (bt x.l) (rxO x)) V2 (by kernel_rfl) rfl (by rfl) (by rfl) (by rfl) (by rfl) (by rfl) (by rw [rsA_sz]; exact th2) (by rw [rs_size, rsA_sz]) (rsA_all ..) hV2 (k2) (fun hHeld => ?_)
      change wpAnyH _ _ _ _ _ 0 #[true, true, true, true] _ _
      refine wpAnyH_done (by kernel_rfl) ?_ _
      go_wp2
      refine bodyPost_ret (res_cell_cell rfl _ _ (w.heap.size + 1) (w.heap.size + 2) (psA x.ps) (rsA x.D (bt x.y) (bt x.h) (bt x.k) (bt x.l) (rxO x)) rfl rfl HE.out.1.range (by unfold rsA; exact HE.out.2.1.whole) Tryd.underlying30 rfl (by rw [info_ps]; rfl) Tryd.underlying33 rfl (by rw [rs_size, rsA_sz])) rfl ?_
      exact ⟨rfl, HE.out.2.2⟩
    | false =>
    cases o1 : oddB x.h with
    | true =>
      have HP := hid (show (true) = rxO x by unfold rxO; rw [o0, o1]; rfl)
      obtain ⟨ox, hox⟩ : ∃ b, b = (true) := ⟨_, rfl⟩
      obtain ⟨Z5, hZ5⟩ : ∃ V, V = Z4.setCell ⟨d, 129, none⟩ (.bool (true)) := ⟨_, rfl⟩
      have t5 := t3.so (true)
      rw [← hZ5] at t5
      have c_0 := t3.e.c0
      have c_1 := t3.e.c1
      have c_2 := t3.e.c2
      have c_3 := t3.e.c3
      rw [o0] at c_0
      rw [o1] at c_1
      skip
      have d_c := t3.d.o
      have d_z := t3.d.z 129
      have HZ5 := hid hZ5
      have T5 := hid t5
      clear t3 hZ5 t5 hox
      go_upto_region 9 with fail
      rw [← show Z5 = Z4.setCell ⟨d, 129, none⟩ (.bool (true)) from HZ5.out]
      have t5 := T5.out
      clear HZ5 T5 c_0 c_1 c_2 c_3 d_c d_z
      rw [HP.out] at t5
      clear HP
      have kd := (Kp.refl Z5).drew
      have t6 := t5.kept kd
      obtain ⟨V1, hV1⟩ : ∃ V, V = Z5.drew.setCells (w.heap.size + 1) 0 (psA x.ps).toList := ⟨_, rfl⟩
      obtain ⟨V2, hV2⟩ : ∃ V, V = V1.setCells (w.heap.size + 2) 0 (rsL x.D (bt x.y) (bt x.h) (bt x.k) (bt x.l) (rxO x)) := ⟨_, rfl⟩
      have hc1 := t6.j.c1
      have hd1 := t6.d1
      have q1 : Qx V1 (w.heap.size + 1) x.ps := by rw [hV1]; exact t6.j.i.q.set x.ps
      have d1 : Rb V1 (w.heap.size + 2) 0 noF noF noF noF false := by rw [hV1]; exact t6.j.i.d.far (by omega) _ _
      have s1 : V1.rangeAt c 0 (psA x.ps).toList ∧ V1.rangeAt d 0 (rsL x.D (bt x.y) (bt x.h) (bt x.k) (bt x.l) (rxO x)) := by rw [hV1]; exact ⟨(t6.j.s.far (by omega) _ _).range, (t6.d.far (by omega) _ _).whole⟩
      have k1 : Kp w V1 := by rw [hV1]; exact kp_setCells t6.j.i.kp _ _ (by omega) _
      have q2 : Qx V2 (w.heap.size + 1) x.ps := by rw [hV2]; exact q1.far (by omega) _ _
      have d2 : Rb V2 (w.heap.size + 2) x.D (bt x.y) (bt x.h) (bt x.k) (bt x.l) (rxO x) := by rw [hV2]; exact d1.set ..
      have s2 : V2.rangeAt c 0 (psA x.ps).toList ∧ V2.rangeAt d 0 (rsL x.D (bt x.y) (bt x.h) (bt x.k) (bt x.l) (rxO x)) := by
        rw [hV2]
        exact ⟨World.rangeAt_setCells_apart s1.1 _ _ _ (.inl (by omega)), World.rangeAt_setCells_apart s1.2 _ _ _ (.inl (by omega))⟩
      have k2 : Kp w V2 := by rw [hV2]; exact kp_setCells k1 _ _ (by omega) _
      have h1 : Z5.drew.rangeAt c 0 (psA x.ps).toList ∧ Z5.drew.rangeAt d 0 (rsL x.D (bt x.y) (bt x.h) (bt x.k) (bt x.l) (rxO x)) := ⟨t6.j.s.range, t6.d.whole⟩
      have th1 := t6.j.i.q.there
      have th2 := d1.there
      have HE := hid (And.intro q2 (And.intro d2 k2))
      clear t5 t6 hc1 hd1 q1 d1 k1 q2 d2 k2 kd
      refine wp_region_held_drew (S := fun X => X.rangeAt c 0 (psA x.ps).toList ∧ X.rangeAt d 0 (rsL x.D (bt x.y) (bt x.h) (bt x.k) (bt x.l) (rxO x))) (by kernel_rfl) (h1) (fun hHeld => ?_)
      change wpAnyH _ _ _ _ _ 4 #[false, false, false, false] _ _
      refine wpAnyH_takeD (i := 0) (oi := _) (v := _) 72 rfl (by rfl) (by kernel_rfl) (by kernel_rfl) (by kernel_rfl) (fun _ _ _ h => h) (yl_qs (by rfl) (by rfl) (by rfl) (fun _ h => h.1)) (by assumption) ?_
      try simp only [Act.put, List.setIfInBounds_toArray, List.set_cons_zero, List.set_cons_succ]
      change wpAnyH _ _ _ _ _ 3 #[true, false, false, false] _ _
      refine wpAnyH_takeD (i := 1) (oi := _) (v := _) 73 rfl (by rfl) (by kernel_rfl) (by kernel_rfl) (by kernel_rfl) (fun _ _ _ h => h) (yl_rs (by rfl) (by rfl) (by rfl) (fun _ h => h.2)) (by assumption) ?_
      try simp only [Act.put, List.setIfInBounds_toArray, List.set_cons_zero, List.set_cons_succ]
      change wpAnyH _ _ _ _ _ 2 #[true, true, false, false] _ _
      have k1 := s1
      refine wpAnyH_qstore 2 x.ps V1 (by kernel_rfl) rfl (by rfl) (by rfl) (by rfl) (by rfl) (by rfl) th1 hV1 (k1) (fun hHeld => ?_)
      change wpAnyH _ _ _ _ _ 1 #[true, true, true, false] _ _
      have k2 := s2
      refine wpAnyH_store_g 3 33 (rsA x.D (bt x.y) (bt x.h) (bt x.k) (bt x.l) (rxO x)) V2 (by kernel_rfl) rfl (by rfl) (by rfl) (by rfl) (by rfl) (by rfl) (by rw [rsA_sz]; exact th2) (by rw [rs_size, rsA_sz]) (rsA_all ..) hV2 (k2) (fun hHeld => ?_)
      change wpAnyH _ _ _ _ _ 0 #[true, true, true, true] _ _
      refine wpAnyH_done (by kernel_rfl) ?_ _
      go_wp2
      refine bodyPost_ret (res_cell_cell rfl _ _ (w.heap.size + 1) (w.heap.size + 2) (psA x.ps) (rsA x.D (bt x.y) (bt x.h) (bt x.k) (bt x.l) (rxO x)) rfl rfl HE.out.1.range (by unfold rsA; exact HE.out.2.1.whole) Tryd.underlying30 rfl (by rw [info_ps]; rfl) Tryd.underlying33 rfl (by rw [rs_size, rsA_sz])) rfl ?_
      exact ⟨rfl, HE.out.2.2⟩
    | false =>
    cases o2 : oddB x.k with
    | true =>
      have HP := hid (show (true) = rxO x by unfold rxO; rw [o0, o1, o2]; rfl)
      obtain ⟨ox, hox⟩ : ∃ b, b = (true) := ⟨_, rfl⟩
      obtain ⟨Z5, hZ5⟩ : ∃ V, V = Z4.setCell ⟨d, 129, none⟩ (.bool (true)) := ⟨_, rfl⟩
      have t5 := t3.so (true)
      rw [← hZ5] at t5
      have c_0 := t3.e.c0
      have c_1 := t3.e.c1
      have c_2 := t3.e.c2
      have c_3 := t3.e.c3
      rw [o0] at c_0
      rw [o1] at c_1
      rw [o2] at c_2
      have d_c := t3.d.o
      have d_z := t3.d.z 129
      have HZ5 := hid hZ5
      have T5 := hid t5
      clear t3 hZ5 t5 hox
      go_upto_region 9 with fail
      rw [← show Z5 = Z4.setCell ⟨d, 129, none⟩ (.bool (true)) from HZ5.out]
      have t5 := T5.out
      clear HZ5 T5 c_0 c_1 c_2 c_3 d_c d_z
      rw [HP.out] at t5
      clear HP
      have kd := (Kp.refl Z5).drew
      have t6 := t5.kept kd
      obtain ⟨V1, hV1⟩ : ∃ V, V = Z5.drew.setCells (w.heap.size + 1) 0 (psA x.ps).toList := ⟨_, rfl⟩
      obtain ⟨V2, hV2⟩ : ∃ V, V = V1.setCells (w.heap.size + 2) 0 (rsL x.D (bt x.y) (bt x.h) (bt x.k) (bt x.l) (rxO x)) := ⟨_, rfl⟩
      have hc1 := t6.j.c1
      have hd1 := t6.d1
      have q1 : Qx V1 (w.heap.size + 1) x.ps := by rw [hV1]; exact t6.j.i.q.set x.ps
      have d1 : Rb V1 (w.heap.size + 2) 0 noF noF noF noF false := by rw [hV1]; exact t6.j.i.d.far (by omega) _ _
      have s1 : V1.rangeAt c 0 (psA x.ps).toList ∧ V1.rangeAt d 0 (rsL x.D (bt x.y) (bt x.h) (bt x.k) (bt x.l) (rxO x)) := by rw [hV1]; exact ⟨(t6.j.s.far (by omega) _ _).range, (t6.d.far (by omega) _ _).whole⟩
      have k1 : Kp w V1 := by rw [hV1]; exact kp_setCells t6.j.i.kp _ _ (by omega) _
      have q2 : Qx V2 (w.heap.size + 1) x.ps := by rw [hV2]; exact q1.far (by omega) _ _
      have d2 : Rb V2 (w.heap.size + 2) x.D (bt x.y) (bt x.h) (bt x.k) (bt x.l) (rxO x) := by rw [hV2]; exact d1.set ..
      have s2 : V2.rangeAt c 0 (psA x.ps).toList ∧ V2.rangeAt d 0 (rsL x.D (bt x.y) (bt x.h) (bt x.k) (bt x.l) (rxO x)) := by
        rw [hV2]
        exact ⟨World.rangeAt_setCells_apart s1.1 _ _ _ (.inl (by omega)), World.rangeAt_setCells_apart s1.2 _ _ _ (.inl (by omega))⟩
      have k2 : Kp w V2 := by rw [hV2]; exact kp_setCells k1 _ _ (by omega) _
      have h1 : Z5.drew.rangeAt c 0 (psA x.ps).toList ∧ Z5.drew.rangeAt d 0 (rsL x.D (bt x.y) (bt x.h) (bt x.k) (bt x.l) (rxO x)) := ⟨t6.j.s.range, t6.d.whole⟩
      have th1 := t6.j.i.q.there
      have th2 := d1.there
      have HE := hid (And.intro q2 (And.intro d2 k2))
      clear t5 t6 hc1 hd1 q1 d1 k1 q2 d2 k2 kd
      refine wp_region_held_drew (S := fun X => X.rangeAt c 0 (psA x.ps).toList ∧ X.rangeAt d 0 (rsL x.D (bt x.y) (bt x.h) (bt x.k) (bt x.l) (rxO x))) (by kernel_rfl) (h1) (fun hHeld => ?_)
      change wpAnyH _ _ _ _ _ 4 #[false, false, false, false] _ _
      refine wpAnyH_takeD (i := 0) (oi := _) (v := _) 72 rfl (by rfl) (by kernel_rfl) (by kernel_rfl) (by kernel_rfl) (fun _ _ _ h => h) (yl_qs (by rfl) (by rfl) (by rfl) (fun _ h => h.1)) (by assumption) ?_
      try simp only [Act.put, List.setIfInBounds_toArray, List.set_cons_zero, List.set_cons_succ]
      change wpAnyH _ _ _ _ _ 3 #[true, false, false, false] _ _
      refine wpAnyH_takeD (i := 1) (oi := _) (v := _) 73 rfl (by rfl) (by kernel_rfl) (by kernel_rfl) (by kernel_rfl) (fun _ _ _ h => h) (yl_rs (by rfl) (by rfl) (by rfl) (fun _ h => h.2)) (by assumption) ?_
      try simp only [Act.put, List.setIfInBounds_toArray, List.set_cons_zero, List.set_cons_succ]
      change wpAnyH _ _ _ _ _ 2 #[true, true, false, false] _ _
      have k1 := s1
      refine wpAnyH_qstore 2 x.ps V1 (by kernel_rfl) rfl (by rfl) (by rfl) (by rfl) (by rfl) (by rfl) th1 hV1 (k1) (fun hHeld => ?_)
      change wpAnyH _ _ _ _ _ 1 #[true, true, true, false] _ _
      have k2 := s2
      refine wpAnyH_store_g 3 33 (rsA x.D (bt x.y) (bt x.h) (bt x.k) (bt x.l) (rxO x)) V2 (by kernel_rfl) rfl (by rfl) (by rfl) (by rfl) (by rfl) (by rfl) (by rw [rsA_sz]; exact th2) (by rw [rs_size, rsA_sz]) (rsA_all ..) hV2 (k2) (fun hHeld => ?_)
      change wpAnyH _ _ _ _ _ 0 #[true, true, true, true] _ _
      refine wpAnyH_done (by kernel_rfl) ?_ _
      go_wp2
      refine bodyPost_ret (res_cell_cell rfl _ _ (w.heap.size + 1) (w.heap.size + 2) (psA x.ps) (rsA x.D (bt x.y) (bt x.h) (bt x.k) (bt x.l) (rxO x)) rfl rfl HE.out.1.range (by unfold rsA; exact HE.out.2.1.whole) Tryd.underlying30 rfl (by rw [info_ps]; rfl) Tryd.underlying33 rfl (by rw [rs_size, rsA_sz])) rfl ?_
      exact ⟨rfl, HE.out.2.2⟩
    | false =>
      have HP := hid (show (oddB x.l) = rxO x by unfold rxO; rw [o0, o1, o2]; rfl)
      obtain ⟨ox, hox⟩ : ∃ b, b = (oddB x.l) := ⟨_, rfl⟩
      obtain ⟨Z5, hZ5⟩ : ∃ V, V = Z4.setCell ⟨d, 129, none⟩ (.bool (oddB x.l)) := ⟨_, rfl⟩
      have t5 := t3.so (oddB x.l)
      rw [← hZ5] at t5
      have c_0 := t3.e.c0
      have c_1 := t3.e.c1
      have c_2 := t3.e.c2
      have c_3 := t3.e.c3
      rw [o0] at c_0
      rw [o1] at c_1
      rw [o2] at c_2
      have d_c := t3.d.o
      have d_z := t3.d.z 129
      have HZ5 := hid hZ5
      have T5 := hid t5
      clear t3 hZ5 t5 hox
      go_upto_region 9 with fail
      rw [← show Z5 = Z4.setCell ⟨d, 129, none⟩ (.bool (oddB x.l)) from HZ5.out]
      have t5 := T5.out
      clear HZ5 T5 c_0 c_1 c_2 c_3 d_c d_z
      rw [HP.out] at t5
      clear HP
      have kd := (Kp.refl Z5).drew
      have t6 := t5.kept kd
      obtain ⟨V1, hV1⟩ : ∃ V, V = Z5.drew.setCells (w.heap.size + 1) 0 (psA x.ps).toList := ⟨_, rfl⟩
      obtain ⟨V2, hV2⟩ : ∃ V, V = V1.setCells (w.heap.size + 2) 0 (rsL x.D (bt x.y) (bt x.h) (bt x.k) (bt x.l) (rxO x)) := ⟨_, rfl⟩
      have hc1 := t6.j.c1
      have hd1 := t6.d1
      have q1 : Qx V1 (w.heap.size + 1) x.ps := by rw [hV1]; exact t6.j.i.q.set x.ps
      have d1 : Rb V1 (w.heap.size + 2) 0 noF noF noF noF false := by rw [hV1]; exact t6.j.i.d.far (by omega) _ _
      have s1 : V1.rangeAt c 0 (psA x.ps).toList ∧ V1.rangeAt d 0 (rsL x.D (bt x.y) (bt x.h) (bt x.k) (bt x.l) (rxO x)) := by rw [hV1]; exact ⟨(t6.j.s.far (by omega) _ _).range, (t6.d.far (by omega) _ _).whole⟩
      have k1 : Kp w V1 := by rw [hV1]; exact kp_setCells t6.j.i.kp _ _ (by omega) _
      have q2 : Qx V2 (w.heap.size + 1) x.ps := by rw [hV2]; exact q1.far (by omega) _ _
      have d2 : Rb V2 (w.heap.size + 2) x.D (bt x.y) (bt x.h) (bt x.k) (bt x.l) (rxO x) := by rw [hV2]; exact d1.set ..
      have s2 : V2.rangeAt c 0 (psA x.ps).toList ∧ V2.rangeAt d 0 (rsL x.D (bt x.y) (bt x.h) (bt x.k) (bt x.l) (rxO x)) := by
        rw [hV2]
        exact ⟨World.rangeAt_setCells_apart s1.1 _ _ _ (.inl (by omega)), World.rangeAt_setCells_apart s1.2 _ _ _ (.inl (by omega))⟩
      have k2 : Kp w V2 := by rw [hV2]; exact kp_setCells k1 _ _ (by omega) _
      have h1 : Z5.drew.rangeAt c 0 (psA x.ps).toList ∧ Z5.drew.rangeAt d 0 (rsL x.D (bt x.y) (bt x.h) (bt x.k) (bt x.l) (rxO x)) := ⟨t6.j.s.range, t6.d.whole⟩
      have th1 := t6.j.i.q.there
      have th2 := d1.there
      have HE := hid (And.intro q2 (And.intro d2 k2))
      clear t5 t6 hc1 hd1 q1 d1 k1 q2 d2 k2 kd
      refine wp_region_held_drew (S := fun X => X.rangeAt c 0 (psA x.ps).toList ∧ X.rangeAt d 0 (rsL x.D (bt x.y) (bt x.h) (bt x.k) (bt x.l) (rxO x))) (by kernel_rfl) (h1) (fun hHeld => ?_)
      change wpAnyH _ _ _ _ _ 4 #[false, false, false, false] _ _
      refine wpAnyH_takeD (i := 0) (oi := _) (v := _) 72 rfl (by rfl) (by kernel_rfl) (by kernel_rfl) (by kernel_rfl) (fun _ _ _ h => h) (yl_qs (by rfl) (by rfl) (by rfl) (fun _ h => h.1)) (by assumption) ?_
      try simp only [Act.put, List.setIfInBounds_toArray, List.set_cons_zero, List.set_cons_succ]
      change wpAnyH _ _ _ _ _ 3 #[true, false, false, false] _ _
      refine wpAnyH_takeD (i := 1) (oi := _) (v := _) 73 rfl (by rfl) (by kernel_rfl) (by kernel_rfl) (by kernel_rfl) (fun _ _ _ h => h) (yl_rs (by rfl) (by rfl) (by rfl) (fun _ h => h.2)) (by assumption) ?_
      try simp only [Act.put, List.setIfInBounds_toArray, List.set_cons_zero, List.set_cons_succ]
      change wpAnyH _ _ _ _ _ 2 #[true, true, false, false] _ _
      have k1 := s1
      refine wpAnyH_qstore 2 x.ps V1 (by kernel_rfl) rfl (by rfl) (by rfl) (by rfl) (by rfl) (by rfl) th1 hV1 (k1) (fun hHeld => ?_)
      change wpAnyH _ _ _ _ _ 1 #[true, true, true, false] _ _
      have k2 := s2
      refine wpAnyH_store_g 3 33 (rsA x.D (bt x.y) (bt x.h) (bt x.k) (bt x.l) (rxO x)) V2 (by kernel_rfl) rfl (by rfl) (by rfl) (by rfl) (by rfl) (by rfl) (by rw [rsA_sz]; exact th2) (by rw [rs_size, rsA_sz]) (rsA_all ..) hV2 (k2) (fun hHeld => ?_)
      change wpAnyH _ _ _ _ _ 0 #[true, true, true, true] _ _
      refine wpAnyH_done (by kernel_rfl) ?_ _
      go_wp2
      refine bodyPost_ret (res_cell_cell rfl _ _ (w.heap.size + 1) (w.heap.size + 2) (psA x.ps) (rsA x.D (bt x.y) (bt x.h) (bt x.k) (bt x.l) (rxO x)) rfl rfl HE.out.1.range (by unfold rsA; exact HE.out.2.1.whole) Tryd.underlying30 rfl (by rw [info_ps]; rfl) Tryd.underlying33 rfl (by rw [rs_size, rsA_sz])) rfl ?_
      exact ⟨rfl, HE.out.2.2⟩
  clear cont hz
  refine wp_region_held_drew (S := fun X => Ia w X x) (by kernel_rfl) (h1) (fun hHeld => ?_)
  change wpAnyH _ _ _ _ _ 17 #[false, false, false, false, false, false, false, false, false, false, false, false, false, false, false, false, false] _ _
  refine wpAnyH_takeD (i := 0) (oi := _) (v := ?_) 7 rfl (by rfl) (by kernel_rfl) (by kernel_rfl) (by kernel_rfl) (fun _ _ _ h => h) (.inl ⟨by rfl, ?_⟩) (by assumption) ?_
  rotate_left; ((intro w hSw; (try dsimp only at hSw); go_simp); first | done | with_reducible rfl)
  try simp only [Act.put, List.setIfInBounds_toArray, List.set_cons_zero, List.set_cons_succ]
  change wpAnyH _ _ _ _ _ 16 #[true, false, false, false, false, false, false, false, false, false, false, false, false, false, false, false, false] _ _
  refine wpAnyH_takeD (i := 1) (oi := _) (v := _) 8 rfl (by rfl) (by kernel_rfl) (by kernel_rfl) (by kernel_rfl) (fun _ _ _ h => h) (yl_int (by rfl) (by rfl) (by rfl) (fun _ h => h.r.c.1)) (by assumption) ?_
  try simp only [Act.put, List.setIfInBounds_toArray, List.set_cons_zero, List.set_cons_succ]
  change wpAnyH _ _ _ _ _ 15 #[true, true, false, false, false, false, false, false, false, false, false, false, false, false, false, false, false] _ _
  refine wpAnyH_takeD (i := 2) (oi := _) (v := ?_) 9 rfl (by rfl) (by kernel_rfl) (by kernel_rfl) (by kernel_rfl) (fun _ _ _ h => h) (.inl ⟨by rfl, ?_⟩) (by assumption) ?_
  rotate_left; ((intro w hSw; (try dsimp only at hSw); go_simp); first | done | with_reducible rfl)
  try simp only [Act.put, List.setIfInBounds_toArray, List.set_cons_zero, List.set_cons_succ]
  change wpAnyH _ _ _ _ _ 14 #[true, true, true, false, false, false, false, false, false, false, false, false, false, false, false, false, false] _ _
  refine wpAnyH_takeD (i := 3) (oi := _) (v := _) 10 rfl (by rfl) (by kernel_rfl) (by kernel_rfl) (by kernel_rfl) (fun _ _ _ h => h) (yl_u64 (by rfl) (by rfl) (by rfl) (fun _ h => h.r.c.2.1)) (by assumption) ?_
  try simp only [Act.put, List.setIfInBounds_toArray, List.set_cons_zero, List.set_cons_succ]
  change wpAnyH _ _ _ _ _ 13 #[true, true, true, true, false, false, false, false, false, false, false, false, false, false, false, false, false] _ _
  refine wpAnyH_takeD (i := 5) (oi := _) (v := ?_) 12 rfl (by rfl) (by kernel_rfl) (by kernel_rfl) (by kernel_rfl) (fun _ _ _ h => h) (.inl ⟨by rfl, ?_⟩) (by assumption) ?_
  rotate_left; ((intro w hSw; (try dsimp only at hSw); go_simp); first | done | with_reducible rfl)
  try simp only [Act.put, List.setIfInBounds_toArray, List.set_cons_zero, List.set_cons_succ]
  change wpAnyH _ _ _ _ _ 12 #[true, true, true, true, false, true, false, false, false, false, false, false, false, false, false, false, false] _ _
  refine wpAnyH_takeD (i := 6) (oi := _) (v := _) 13 rfl (by rfl) (by kernel_rfl) (by kernel_rfl) (by kernel_rfl) (fun _ _ _ h => h) (yl_u64 (by rfl) (by rfl) (by rfl) (fun _ h => h.r.c.2.2.1)) (by assumption) ?_
  try simp only [Act.put, List.setIfInBounds_toArray, List.set_cons_zero, List.set_cons_succ]
  change wpAnyH _ _ _ _ _ 11 #[true, true, true, true, false, true, true, false, false, false, false, false, false, false, false, false, false] _ _
  refine wpAnyH_takeD (i := 8) (oi := _) (v := ?_) 15 rfl (by rfl) (by kernel_rfl) (by kernel_rfl) (by kernel_rfl) (fun _ _ _ h => h) (.inl ⟨by rfl, ?_⟩) (by assumption) ?_
  rotate_left; ((intro w hSw; (try dsimp only at hSw); go_simp); first | done | with_reducible rfl)
  try simp only [Act.put, List.setIfInBounds_toArray, List.set_cons_zero, List.set_cons_succ]
  change wpAnyH _ _ _ _ _ 10 #[true, true, true, true, false, true, true, false, true, false, false, false, false, false, false, false, false] _ _
  refine wpAnyH_takeD (i := 9) (oi := _) (v := _) 16 rfl (by rfl) (by kernel_rfl) (by kernel_rfl) (by kernel_rfl) (fun _ _ _ h => h) (yl_u64 (by rfl) (by rfl) (by rfl) (fun _ h => h.r.c.2.2.2.1)) (by assumption) ?_
  try simp only [Act.put, List.setIfInBounds_toArray, List.set_cons_zero, List.set_cons_succ]
  change wpAnyH _ _ _ _ _ 9 #[true, true, true, true, false, true, true, false, true, true, false, false, false, false, false, false, false] _ _
  refine wpAnyH_takeD (i := 11) (oi := _) (v := ?_) 18 rfl (by rfl) (by kernel_rfl) (by kernel_rfl) (by kernel_rfl) (fun _ _ _ h => h) (.inl ⟨by rfl, ?_⟩) (by assumption) ?_
  rotate_left; ((intro w hSw; (try dsimp only at hSw); go_simp); first | done | with_reducible rfl)
  try simp only [Act.put, List.setIfInBounds_toArray, List.set_cons_zero, List.set_cons_succ]
  change wpAnyH _ _ _ _ _ 8 #[true, true, true, true, false, true, true, false, true, true, false, true, false, false, false, false, false] _ _
  refine wpAnyH_takeD (i := 12) (oi := _) (v := _) 19 rfl (by rfl) (by kernel_rfl) (by kernel_rfl) (by kernel_rfl) (fun _ _ _ h => h) (yl_u64 (by rfl) (by rfl) (by rfl) (fun _ h => h.r.c.2.2.2.2)) (by assumption) ?_
  try simp only [Act.put, List.setIfInBounds_toArray, List.set_cons_zero, List.set_cons_succ]
  change wpAnyH _ _ _ _ _ 7 #[true, true, true, true, false, true, true, false, true, true, false, true, true, false, false, false, false] _ _
  refine wpAnyH_ready (rs := [4, 15]) (by kernel_rfl) (by simp) ?_
  refine AllReadyH.cons (o := _) rfl ?_ ?_
  · intro K hK
    go_simp
    go_at_call 19
    refine (set_any x.y hx.y _).mono ?_; rintro e X1 ⟨rfl, p1⟩
    have k1 := h1.kept p1
    refine hK.out _ _ (k1) (fun hHeld => ?_)
    clear hK K
    try simp only [Act.put, List.setIfInBounds_toArray, List.set_cons_zero, List.set_cons_succ]
    change wpAnyH _ _ _ _ _ 6 #[true, true, true, true, true, true, true, false, true, true, false, true, true, false, false, false, false] _ _
    refine wpAnyH_ready (rs := [7, 15]) (by kernel_rfl) (by simp) ?_
    refine AllReadyH.cons (o := _) rfl ?_ ?_
    · intro K hK
      go_simp
      go_at_call 19
      refine (set_any x.h hx.h _).mono ?_; rintro e X2 ⟨rfl, p2⟩
      have k2 := k1.kept p2
      refine hK.out _ _ (k2) (fun hHeld => ?_)
      clear hK K
      try simp only [Act.put, List.setIfInBounds_toArray, List.set_cons_zero, List.set_cons_succ]
      change wpAnyH _ _ _ _ _ 5 #[true, true, true, true, true, true, true, true, true, true, false, true, true, false, false, false, false] _ _
      refine wpAnyH_ready (rs := [10, 15]) (by kernel_rfl) (by simp) ?_
      refine AllReadyH.cons (o := _) rfl ?_ ?_
      · intro K hK
        go_simp
        go_at_call 19
        refine (set_any x.k hx.k _).mono ?_; rintro e X3 ⟨rfl, p3⟩
        have k3 := k2.kept p3
        refine hK.out _ _ (k3) (fun hHeld => ?_)
        clear hK K
        try simp only [Act.put, List.setIfInBounds_toArray, List.set_cons_zero, List.set_cons_succ]
        change wpAnyH _ _ _ _ _ 4 #[true, true, true, true, true, true, true, true, true, true, true, true, true, false, false, false, false] _ _
        refine wpAnyH_ready (rs := [13, 15]) (by kernel_rfl) (by simp) ?_
        refine AllReadyH.cons (o := _) rfl ?_ ?_
        · intro K hK
          go_simp
          go_at_call 19
          refine (set_any x.l hx.l _).mono ?_; rintro e X4 ⟨rfl, p4⟩
          have k4 := k3.kept p4
          refine hK.out _ _ (k4) (fun hHeld => ?_)
          clear hK K
          try simp only [Act.put, List.setIfInBounds_toArray, List.set_cons_zero, List.set_cons_succ]
          change wpAnyH _ _ _ _ _ 3 #[true, true, true, true, true, true, true, true, true, true, true, true, true, true, false, false, false] _ _
          refine wpAnyH_takeD (i := 14) (oi := _) (v := _) 21 rfl (by rfl) (by kernel_rfl) (by kernel_rfl) (by kernel_rfl) (fun _ _ _ h => h) (yl_bps5 x.ps (by rfl) (by rfl) (by rfl) (by rfl) (by rfl) (by rfl) (by rfl)) (by assumption) ?_
          try simp only [Act.put, List.setIfInBounds_toArray, List.set_cons_zero, List.set_cons_succ]
          change wpAnyH _ _ _ _ _ 2 #[true, true, true, true, true, true, true, true, true, true, true, true, true, true, true, false, false] _ _
          refine wpAnyH_ready (rs := [15]) (by kernel_rfl) (by simp) ?_
          refine AllReadyH.cons (o := _) rfl ?_ ?_
          rotate_left; exact AllReadyH.nil
          intro K hK
          go_simp
          obtain ⟨Y5, hY⟩ : ∃ Y, Y = X4.alloc (.cells (psA z17) 30) := ⟨_, rfl⟩
          have k5 : Ja w Y5 x X4.heap.size z17 := by rw [hY]; exact Ja.new k4
          refine hK.out _ _ (by have h9 := k5.i; rw [hY] at h9; exact h9) (fun hHeld => ?_)
          clear hK K
          try simp only [Act.put, List.setIfInBounds_toArray, List.set_cons_zero, List.set_cons_succ]
          change wpAnyH _ _ _ _ _ 1 #[true, true, true, true, true, true, true, true, true, true, true, true, true, true, true, true, false] _ _
          change wpAnyH _ _ _ _ _ _ _ _ (X4.alloc (.cells (psA z17) 30))
          rw [← hY]
          have hHeld2 := k5.i
          clear hY hHeld
          obtain ⟨V, hV⟩ : ∃ V, V = Y5.setCells X4.heap.size 0 (psA x.ps).toList := ⟨_, rfl⟩
          have k6 : Ja w V x X4.heap.size x.ps := by rw [hV]; exact k5.set x.ps
          refine wpAnyH_qstore 16 x.ps V (by kernel_rfl) rfl (by rfl) (by rfl) (by rfl) (by rfl) (by rfl) k5.s.there hV (k6.i) (fun hHeld => ?_)
          change wpAnyH _ _ _ _ _ 0 #[true, true, true, true, true, true, true, true, true, true, true, true, true, true, true, true, true] _ _
          refine wpAnyH_done (by kernel_rfl) ?_ _
          exact HK _ _ k6
        refine AllReadyH.cons (o := _) rfl ?_ ?_
        · intro K hK
          go_simp
          obtain ⟨Y4, hY⟩ : ∃ Y, Y = X3.alloc (.cells (psA z17) 30) := ⟨_, rfl⟩
          have k4 : Ja w Y4 x X3.heap.size z17 := by rw [hY]; exact Ja.new k3
          refine hK.out _ _ (by have h9 := k4.i; rw [hY] at h9; exact h9) (fun hHeld => ?_)
          clear hK K
          try simp only [Act.put, List.setIfInBounds_toArray, List.set_cons_zero, List.set_cons_succ]
          change wpAnyH _ _ _ _ _ 3 #[true, true, true, true, true, true, true, true, true, true, true, true, true, false, false, true, false] _ _
          change wpAnyH _ _ _ _ _ _ _ _ (X3.alloc (.cells (psA z17) 30))
          rw [← hY]
          have hHeld2 := k4.i
          clear hY hHeld
          refine wpAnyH_ready (rs := [13]) (by kernel_rfl) (by simp) ?_
          refine AllReadyH.cons (o := _) rfl ?_ ?_
          rotate_left; exact AllReadyH.nil
          intro K hK
          go_simp
          go_at_call 19
          refine (set_any x.l hx.l _).mono ?_; rintro e X5 ⟨rfl, p5⟩
          have k5 := k4.kept p5
          refine hK.out _ _ (k5.i) (fun hHeld => ?_)
          clear hK K
          try simp only [Act.put, List.setIfInBounds_toArray, List.set_cons_zero, List.set_cons_succ]
          change wpAnyH _ _ _ _ _ 2 #[true, true, true, true, true, true, true, true, true, true, true, true, true, true, false, true, false] _ _
          refine wpAnyH_takeD (i := 14) (oi := _) (v := _) 21 rfl (by rfl) (by kernel_rfl) (by kernel_rfl) (by kernel_rfl) (fun _ _ _ h => h) (yl_bps5 x.ps (by rfl) (by rfl) (by rfl) (by rfl) (by rfl) (by rfl) (by rfl)) (by assumption) ?_
          try simp only [Act.put, List.setIfInBounds_toArray, List.set_cons_zero, List.set_cons_succ]
          change wpAnyH _ _ _ _ _ 1 #[true, true, true, true, true, true, true, true, true, true, true, true, true, true, true, true, false] _ _
          obtain ⟨V, hV⟩ : ∃ V, V = X5.setCells X3.heap.size 0 (psA x.ps).toList := ⟨_, rfl⟩
          have k6 : Ja w V x X3.heap.size x.ps := by rw [hV]; exact k5.set x.ps
          refine wpAnyH_qstore 16 x.ps V (by kernel_rfl) rfl (by rfl) (by rfl) (by rfl) (by rfl) (by rfl) k5.s.there hV (k6.i) (fun hHeld => ?_)
          change wpAnyH _ _ _ _ _ 0 #[true, true, true, true, true, true, true, true, true, true, true, true, true, true, true, true, true] _ _
          refine wpAnyH_done (by kernel_rfl) ?_ _
          exact HK _ _ k6
        exact AllReadyH.nil
      refine AllReadyH.cons (o := _) rfl ?_ ?_
      · intro K hK
        go_simp
        obtain ⟨Y3, hY⟩ : ∃ Y, Y = X2.alloc (.cells (psA z17) 30) := ⟨_, rfl⟩
        have k3 : Ja w Y3 x X2.heap.size z17 := by rw [hY]; exact Ja.new k2
        refine hK.out _ _ (by have h9 := k3.i; rw [hY] at h9; exact h9) (fun hHeld => ?_)
        clear hK K
        try simp only [Act.put, List.setIfInBounds_toArray, List.set_cons_zero, List.set_cons_succ]
        change wpAnyH _ _ _ _ _ 4 #[true, true, true, true, true, true, true, true, true, true, false, true, true, false, false, true, false] _ _
        change wpAnyH _ _ _ _ _ _ _ _ (X2.alloc (.cells (psA z17) 30))
        rw [← hY]
        have hHeld2 := k3.i
        clear hY hHeld
        refine wpAnyH_ready (rs := [10]) (by kernel_rfl) (by simp) ?_
        refine AllReadyH.cons (o := _) rfl ?_ ?_
        rotate_left; exact AllReadyH.nil
        intro K hK
        go_simp
        go_at_call 19
        refine (set_any x.k hx.k _).mono ?_; rintro e X4 ⟨rfl, p4⟩
        have k4 := k3.kept p4
        refine hK.out _ _ (k4.i) (fun hHeld => ?_)
        clear hK K
        try simp only [Act.put, List.setIfInBounds_toArray, List.set_cons_zero, List.set_cons_succ]
        change wpAnyH _ _ _ _ _ 3 #[true, true, true, true, true, true, true, true, true, true, true, true, true, false, false, true, false] _ _
        refine wpAnyH_ready (rs := [13]) (by kernel_rfl) (by simp) ?_
        refine AllReadyH.cons (o := _) rfl ?_ ?_
        rotate_left; exact AllReadyH.nil
        intro K hK
        go_simp
        go_at_call 19
        refine (set_any x.l hx.l _).mono ?_; rintro e X5 ⟨rfl, p5⟩
        have k5 := k4.kept p5
        refine hK.out _ _ (k5.i) (fun hHeld => ?_)
        clear hK K
        try simp only [Act.put, List.setIfInBounds_toArray, List.set_cons_zero, List.set_cons_succ]
        change wpAnyH _ _ _ _ _ 2 #[true, true, true, true, true, true, true, true, true, true, true, true, true, true, false, true, false] _ _
        refine wpAnyH_takeD (i := 14) (oi := _) (v := _) 21 rfl (by rfl) (by kernel_rfl) (by kernel_rfl) (by kernel_rfl) (fun _ _ _ h => h) (yl_bps5 x.ps (by rfl) (by rfl) (by rfl) (by rfl) (by rfl) (by rfl) (by rfl)) (by assumption) ?_
        try simp only [Act.put, List.setIfInBounds_toArray, List.set_cons_zero, List.set_cons_succ]
        change wpAnyH _ _ _ _ _ 1 #[true, true, true, true, true, true, true, true, true, true, true, true, true, true, true, true, false] _ _
        obtain ⟨V, hV⟩ : ∃ V, V = X5.setCells X2.heap.size 0 (psA x.ps).toList := ⟨_, rfl⟩
        have k6 : Ja w V x X2.heap.size x.ps := by rw [hV]; exact k5.set x.ps
        refine wpAnyH_qstore 16 x.ps V (by kernel_rfl) rfl (by rfl) (by rfl) (by rfl) (by rfl) (by rfl) k5.s.there hV (k6.i) (fun hHeld => ?_)
        change wpAnyH _ _ _ _ _ 0 #[true, true, true, true, true, true, true, true, true, true, true, true, true, true, true, true, true] _ _
        refine wpAnyH_done (by kernel_rfl) ?_ _
        exact HK _ _ k6
      exact AllReadyH.nil
    refine AllReadyH.cons (o := _) rfl ?_ ?_
    · intro K hK
      go_simp
      obtain ⟨Y2, hY⟩ : ∃ Y, Y = X1.alloc (.cells (psA z17) 30) := ⟨_, rfl⟩
      have k2 : Ja w Y2 x X1.heap.size z17 := by rw [hY]; exact Ja.new k1
      refine hK.out _ _ (by have h9 := k2.i; rw [hY] at h9; exact h9) (fun hHeld => ?_)
      clear hK K
      try simp only [Act.put, List.setIfInBounds_toArray, List.set_cons_zero, List.set_cons_succ]
      change wpAnyH _ _ _ _ _ 5 #[true, true, true, true, true, true, true, false, true, true, false, true, true, false, false, true, false] _ _
      change wpAnyH _ _ _ _ _ _ _ _ (X1.alloc (.cells (psA z17) 30))
      rw [← hY]
      have hHeld2 := k2.i
      clear hY hHeld
      refine wpAnyH_ready (rs := [7]) (by kernel_rfl) (by simp) ?_
      refine AllReadyH.cons (o := _) rfl ?_ ?_
      rotate_left; exact AllReadyH.nil
      intro K hK
      go_simp
      go_at_call 19
      refine (set_any x.h hx.h _).mono ?_; rintro e X3 ⟨rfl, p3⟩
      have k3 := k2.kept p3
      refine hK.out _ _ (k3.i) (fun hHeld => ?_)
      clear hK K
      try simp only [Act.put, List.setIfInBounds_toArray, List.set_cons_zero, List.set_cons_succ]
      change wpAnyH _ _ _ _ _ 4 #[true, true, true, true, true, true, true, true, true, true, false, true, true, false, false, true, false] _ _
      refine wpAnyH_ready (rs := [10]) (by kernel_rfl) (by simp) ?_
      refine AllReadyH.cons (o := _) rfl ?_ ?_
      rotate_left; exact AllReadyH.nil
      intro K hK
      go_simp
      go_at_call 19
      refine (set_any x.k hx.k _).mono ?_; rintro e X4 ⟨rfl, p4⟩
      have k4 := k3.kept p4
      refine hK.out _ _ (k4.i) (fun hHeld => ?_)
      clear hK K
      try simp only [Act.put, List.setIfInBounds_toArray, List.set_cons_zero, List.set_cons_succ]
      change wpAnyH _ _ _ _ _ 3 #[true, true, true, true, true, true, true, true, true, true, true, true, true, false, false, true, false] _ _
      refine wpAnyH_ready (rs := [13]) (by kernel_rfl) (by simp) ?_
      refine AllReadyH.cons (o := _) rfl ?_ ?_
      rotate_left; exact AllReadyH.nil
      intro K hK
      go_simp
      go_at_call 19
      refine (set_any x.l hx.l _).mono ?_; rintro e X5 ⟨rfl, p5⟩
      have k5 := k4.kept p5
      refine hK.out _ _ (k5.i) (fun hHeld => ?_)
      clear hK K
      try simp only [Act.put, List.setIfInBounds_toArray, List.set_cons_zero, List.set_cons_succ]
      change wpAnyH _ _ _ _ _ 2 #[true, true, true, true, true, true, true, true, true, true, true, true, true, true, false, true, false] _ _
      refine wpAnyH_takeD (i := 14) (oi := _) (v := _) 21 rfl (by rfl) (by kernel_rfl) (by kernel_rfl) (by kernel_rfl) (fun _ _ _ h => h) (yl_bps5 x.ps (by rfl) (by rfl) (by rfl) (by rfl) (by rfl) (by rfl) (by rfl)) (by assumption) ?_
      try simp only [Act.put, List.setIfInBounds_toArray, List.set_cons_zero, List.set_cons_succ]
      change wpAnyH _ _ _ _ _ 1 #[true, true, true, true, true, true, true, true, true, true, true, true, true, true, true, true, false] _ _
      obtain ⟨V, hV⟩ : ∃ V, V = X5.setCells X1.heap.size 0 (psA x.ps).toList := ⟨_, rfl⟩
      have k6 : Ja w V x X1.heap.size x.ps := by rw [hV]; exact k5.set x.ps
      refine wpAnyH_qstore 16 x.ps V (by kernel_rfl) rfl (by rfl) (by rfl) (by rfl) (by rfl) (by rfl) k5.s.there hV (k6.i) (fun hHeld => ?_)
      change wpAnyH _ _ _ _ _ 0 #[true, true, true, true, true, true, true, true, true, true, true, true, true, true, true, true, true] _ _
      refine wpAnyH_done (by kernel_rfl) ?_ _
      exact HK _ _ k6
    exact AllReadyH.nil
  refine AllReadyH.cons (o := _) rfl ?_ ?_
  · intro K hK
    go_simp
    obtain ⟨Y1, hY⟩ : ∃ Y, Y = w0.drew.alloc (.cells (psA z17) 30) := ⟨_, rfl⟩
    have k1 : Ja w Y1 x w0.drew.heap.size z17 := by rw [hY]; exact Ja.new h1
    refine hK.out _ _ (by have h9 := k1.i; rw [hY] at h9; exact h9) (fun hHeld => ?_)
    clear hK K
    try simp only [Act.put, List.setIfInBounds_toArray, List.set_cons_zero, List.set_cons_succ]
    change wpAnyH _ _ _ _ _ 6 #[true, true, true, true, false, true, true, false, true, true, false, true, true, false, false, true, false] _ _
    change wpAnyH _ _ _ _ _ _ _ _ (w0.drew.alloc (.cells (psA z17) 30))
    rw [← hY]
    have hHeld2 := k1.i
    clear hY hHeld
    refine wpAnyH_ready (rs := [4]) (by kernel_rfl) (by simp) ?_
    refine AllReadyH.cons (o := _) rfl ?_ ?_
    rotate_left; exact AllReadyH.nil
    intro K hK
    go_simp
    go_at_call 19
    refine (set_any x.y hx.y _).mono ?_; rintro e X2 ⟨rfl, p2⟩
    have k2 := k1.kept p2
    refine hK.out _ _ (k2.i) (fun hHeld => ?_)
    clear hK K
    try simp only [Act.put, List.setIfInBounds_toArray, List.set_cons_zero, List.set_cons_succ]
    change wpAnyH _ _ _ _ _ 5 #[true, true, true, true, true, true, true, false, true, true, false, true, true, false, false, true, false] _ _
    refine wpAnyH_ready (rs := [7]) (by kernel_rfl) (by simp) ?_
    refine AllReadyH.cons (o := _) rfl ?_ ?_
    rotate_left; exact AllReadyH.nil
    intro K hK
    go_simp
    go_at_call 19
    refine (set_any x.h hx.h _).mono ?_; rintro e X3 ⟨rfl, p3⟩
    have k3 := k2.kept p3
    refine hK.out _ _ (k3.i) (fun hHeld => ?_)
    clear hK K
    try simp only [Act.put, List.setIfInBounds_toArray, List.set_cons_zero, List.set_cons_succ]
    change wpAnyH _ _ _ _ _ 4 #[true, true, true, true, true, true, true, true, true, true, false, true, true, false, false, true, false] _ _
    refine wpAnyH_ready (rs := [10]) (by kernel_rfl) (by simp) ?_
    refine AllReadyH.cons (o := _) rfl ?_ ?_
    rotate_left; exact AllReadyH.nil
    intro K hK
    go_simp
    go_at_call 19
    refine (set_any x.k hx.k _).mono ?_; rintro e X4 ⟨rfl, p4⟩
    have k4 := k3.kept p4
    refine hK.out _ _ (k4.i) (fun hHeld => ?_)
    clear hK K
    try simp only [Act.put, List.setIfInBounds_toArray, List.set_cons_zero, List.set_cons_succ]
    change wpAnyH _ _ _ _ _ 3 #[true, true, true, true, true, true, true, true, true, true, true, true, true, false, false, true, false] _ _
    refine wpAnyH_ready (rs := [13]) (by kernel_rfl) (by simp) ?_
    refine AllReadyH.cons (o := _) rfl ?_ ?_
    rotate_left; exact AllReadyH.nil
    intro K hK
    go_simp
    go_at_call 19
    refine (set_any x.l hx.l _).mono ?_; rintro e X5 ⟨rfl, p5⟩
    have k5 := k4.kept p5
    refine hK.out _ _ (k5.i) (fun hHeld => ?_)
    clear hK K
    try simp only [Act.put, List.setIfInBounds_toArray, List.set_cons_zero, List.set_cons_succ]
    change wpAnyH _ _ _ _ _ 2 #[true, true, true, true, true, true, true, true, true, true, true, true, true, true, false, true, false] _ _
    refine wpAnyH_takeD (i := 14) (oi := _) (v := _) 21 rfl (by rfl) (by kernel_rfl) (by kernel_rfl) (by kernel_rfl) (fun _ _ _ h => h) (yl_bps5 x.ps (by rfl) (by rfl) (by rfl) (by rfl) (by rfl) (by rfl) (by rfl)) (by assumption) ?_
    try simp only [Act.put, List.setIfInBounds_toArray, List.set_cons_zero, List.set_cons_succ]
    change wpAnyH _ _ _ _ _ 1 #[true, true, true, true, true, true, true, true, true, true, true, true, true, true, true, true, false] _ _
    obtain ⟨V, hV⟩ : ∃ V, V = X5.setCells w0.drew.heap.size 0 (psA x.ps).toList := ⟨_, rfl⟩
    have k6 : Ja w V x w0.drew.heap.size x.ps := by rw [hV]; exact k5.set x.ps
    refine wpAnyH_qstore 16 x.ps V (by kernel_rfl) rfl (by rfl) (by rfl) (by rfl) (by rfl) (by rfl) k5.s.there hV (k6.i) (fun hHeld => ?_)
    change wpAnyH _ _ _ _ _ 0 #[true, true, true, true, true, true, true, true, true, true, true, true, true, true, true, true, true] _ _
    refine wpAnyH_done (by kernel_rfl) ?_ _
    exact HK _ _ k6
  exact AllReadyH.nil

end Go.Proofs.YtffbachgbcefiaaDoor
