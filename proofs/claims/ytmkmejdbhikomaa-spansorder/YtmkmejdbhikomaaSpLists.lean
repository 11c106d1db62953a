/-
  Contract of the laws' own lists: the program's and the document's list. Conditions: that the list's cells hold the spans.
-/
import Derived.Test.YtmkmejdbhikomaaSpLaw
namespace Go.Proofs.Ytmkmejdbhikomaa
open Go.RowKit Plain
set_option linter.unusedVariables false

theorem size24 (W : World) : (sizeOf (Try.prog.elem 24)).run Try.prog W = .ok 2 W := by
  have hE : (Try.prog.info? 23).map (fun i => (i.zero, i.size, i.bytes)) = some (some (.agg #[.int .i64 0, .int .i64 0]), 2, 16) := by kernel_rfl
  obtain ⟨i0, hi, hz0, hz1, hz2⟩ := info_parts hE
  have he : Try.prog.elem 24 = 23 := by kernel_rfl
  rw [he]
  simp [sizeOf, typeInfo, hi, hz1]
theorem und24 : Try.prog.underlying 24 = some (.slice (Try.prog.elem 24)) := by kernel_rfl
theorem run_head24 (a : Option Addr) (n cap j : Nat) (hj : j ≤ cap) (W : World) : (Instr.slice 24 (.slice a n cap) none (some (.int .i64 (j : Int))) none).run Try.prog W = .ok (.slice (cutA a cap 0) j cap) W := by
  rw [run_slice_h W 24 a n cap und24 .i64 j (by omega) (by omega), size24]
  simp [sliced, cutA, Result.andThen]
/-- a list and a span, together: one more span at most. -/
theorem add_len {l R : List (Int × Int)} {s : (Int × Int)} (hG : G l) (hg : gd s = true) (hR : G R) (hx : ∀ x, hs R x = (hs l x || inS s x)) : R.length ≤ l.length + 1 := by
  have hs' := (gd_iff s).1 hg
  have t1 : ∃ i, Turn l (fun q => decide (s.1 - 1 < q.2)) i := by
    refine ⟨l.findIdx (fun q => decide (s.1 - 1 < q.2)), turn_to hG.nb (s.1 - 1) _ List.findIdx_le_length (fun h => ?_) (fun h => ?_)⟩
    · have := List.not_of_lt_findIdx (p := fun q : (Int × Int) => decide (s.1 - 1 < q.2)) (xs := l) (i := l.findIdx (fun q => decide (s.1 - 1 < q.2)) - 1) (by omega)
      have hlen : l.findIdx (fun q => decide (s.1 - 1 < q.2)) ≤ l.length := List.findIdx_le_length
      rw [List.getD_eq_getElem?_getD, List.getElem?_eq_getElem (by omega)]
      simp at this
      simp only [Option.getD_some]
      omega
    · have := List.findIdx_getElem (p := fun q : (Int × Int) => decide (s.1 - 1 < q.2)) (xs := l) (w := h)
      rw [List.getD_eq_getElem?_getD, List.getElem?_eq_getElem h]
      simp at this
      simp only [Option.getD_some]
      omega
  have t2 : ∃ j, Turn l (fun q => decide (s.2 + 1 ≤ q.1)) j := by
    refine ⟨l.findIdx (fun q => decide (s.2 + 1 ≤ q.1)), turn_from hG.nb (s.2 + 1) _ List.findIdx_le_length (fun h => ?_) (fun h => ?_)⟩
    · have := List.not_of_lt_findIdx (p := fun q : (Int × Int) => decide (s.2 + 1 ≤ q.1)) (xs := l) (i := l.findIdx (fun q => decide (s.2 + 1 ≤ q.1)) - 1) (by omega)
      have hlen : l.findIdx (fun q => decide (s.2 + 1 ≤ q.1)) ≤ l.length := List.findIdx_le_length
      rw [List.getD_eq_getElem?_getD, List.getElem?_eq_getElem (by omega)]
      simp at this
      simp only [Option.getD_some]
      omega
    · have := List.findIdx_getElem (p := fun q : (Int × Int) => decide (s.2 + 1 ≤ q.1)) (xs := l) (w := h)
      rw [List.getD_eq_getElem?_getD, List.getElem?_eq_getElem h]
      simp at this
      simp only [Option.getD_some]
      omega
  obtain ⟨i, hi⟩ := t1
  obtain ⟨j, hj⟩ := t2
  have hm : Mid l (s.1 - 1, s.2 + 1) i j := mid_of hG (by show s.1 - 1 < s.2 + 1; omega) hi hj
  obtain ⟨a1, a2, a3⟩ := add_ok hG hg hm
  rw [hR.one a1 (fun x => by rw [hx x, a2 x])]
  exact a3
/-- the second loop of lists: what it is about. -/
structure LsR (w w' : World) (va vb : Value) (L : List (Int × Int)) : Prop where
  a : SpIn w' va L
  b : SpIn w' vb L
  len : L.length ≤ 40
  k : Kp w w'
set_option maxRecDepth 100000 in
set_option maxHeartbeats 4000000 in
theorem lists_at (a : Option Addr) (b off cap : Nat) (l : List (Int × Int)) (whole : Bool) (w : World) (h : SpAt w a b off cap l) : Calls Try.prog 9 #[.slice a l.length cap, .bool whole] w fun e w' => ∃ va vb L, e = .returned (.tuple #[va, vb]) ∧ LsR w w' va vb L ∧ (whole = true → G L) := by
  have hle := h.le
  have hmx := h.mx
  unfold maxLen at hmx
  have HP0 := h.part 0 (min l.length 40) (by omega) (by omega)
  obtain ⟨n, hn⟩ : ∃ n, n = l.length := ⟨_, rfl⟩
  rw [← hn] at hle HP0 ⊢
  obtain ⟨t, ht⟩ : ∃ t, t = min n 40 := ⟨_, rfl⟩
  rw [← ht] at HP0
  have htn : t ≤ n := by omega
  have ht4 : t ≤ 40 := by omega
  have HTT : Hid (min (n : Int) 40 = (t : Int)) := by show min (n : Int) 40 = (t : Int); omega
  obtain ⟨M, hM⟩ : ∃ M, M = (l.take t).drop 0 := ⟨_, rfl⟩
  have hMl : M.length = t := by rw [hM, List.length_drop, List.length_take]; omega
  rw [← hM] at HP0
  have hsl := run_head24 a n cap t (by omega)
  obtain ⟨a', ha'⟩ : ∃ a', a' = cutA a cap 0 := ⟨_, rfl⟩
  rw [← ha'] at hsl HP0
  have hap := HP0.ha
  rw [hMl] at hap
  have HP : Hid (SpAt w a' b (off + 0 * 2) (cap - 0) M) := HP0
  have HML : Hid (M.length = t) := hMl
  rw [show off + 0 * 2 = off by omega] at hap HP
  have hmin : ∀ (ts : Array TypeId) (t1 : TypeId) (w : World), (Builtin.min_ ts t1 #[.int .i64 (n : Int), .int .i64 40]).run Try.prog w = .ok (.int .i64 (t : Int)) w := fun ts t1 w => by rw [imin, HTT.out]
  clear h hn ht hM hMl ha' HP0
  have hO := one_any
  unfold spV at hO
  go_enter Try.func9, Try.ntmps9
  go_wp2
  go_loopw [19, 6] (fun i q wr => ∃ k : Nat, ∃ L : List (Int × Int), k ≤ t ∧ i = .int .i64 k ∧ L.length ≤ k ∧ Hid (SpIn wr q L) ∧ Hid (whole = true → G L) ∧ Hid (whole = false → Own wr w.heap.size 31 q L) ∧ Kp w wr) (fun i _ _ => t - (intOf i).toNat)
  case atStart => exact ⟨0, [], by omega, rfl, by simp, SpIn.nil w, fun _ => G.nil, fun _ => World.ownsRow_nil _ _ _ _, Kp.refl w⟩
  case round =>
    obtain ⟨k, L, hk, rfl, hLl, HQ, HG, HO, hK⟩ := hrel
    by_cases hlt : k < t
    · obtain rfl := hap (by omega)
      have q1 : k < M.length := by rw [HML.out]; exact hlt
      have c0 := hK.held (HP.out.c0 k q1)
      have c1 := hK.held (HP.out.c1 k q1)
      obtain ⟨p, hp⟩ : ∃ p, p = M.getD k (0, 0) := ⟨_, rfl⟩
      rw [← hp] at c0 c1
      clear hp q1
      obtain ⟨x, y⟩ := p
      simp only at c0 c1
      cases whole with
      | false =>
        have HOw := HO.out rfl
        have HO1 : Hid (Own wr w.heap.size 31 _ L) := HOw
        clear HO HG HQ HOw
        go_wp2_with (at_builtin; refine wpList_append_sp rfl _ _ 27 rfl w.heap.size 31 elt27 _ L rfl (((HO1.out.alloc _).alloc _).alloc _) _ [(x, y)] rfl (SpIn.lit2 _ (x, y) _ _ (by simp)) ?c1 ?c2 ?_; rotate_left; rotate_left; intro u2 w4 ho2 hg2 hr2)
        case c1 => (try simp); omega
        case c2 => have := hK.size; (try simp); omega
        have K4 : Kp w w4 := (((hK.alloc _).alloc _).alloc _).grown hg2 (fun q hq => own_lt HO1.out q hq)
        have HO2 : Hid (Own w4 w.heap.size 31 u2 (L ++ [(x, y)])) := ho2
        clear ho2 hg2 hr2 HO1 hK c0 c1
        go_wp2
        go_roundw
        case rel => exact ⟨k + 1, L ++ [(x, y)], by omega, by go_num, by simp; omega, HO2.out.sp, (fun h => (by cases h) : false = true → G (L ++ [(x, y)])), fun _ => HO2.out, K4⟩
        case measure => simp [intOf]; omega
      | true =>
        have hG := HG.out rfl
        have hO1 := hO (x, y)
        simp only at hO1
        cases hg : gd (x, y) with
        | false =>
          rw [hg] at hO1
          clear hg hO HO
          go_wp2_with fail
          refine (hO1 _).mono ?_; rintro e w1 ⟨rfl, k1⟩
          have L1 : Hid (Kp wr w1) := (((Kp.refl wr).alloc _).alloc _).trans k1
          clear hO1 k1 c0 c1
          go_wp2
          go_roundw
          case rel => exact ⟨k + 1, L, by omega, by go_num, by omega, HQ.out.kept L1.out, HG, (fun h => (by cases h) : true = false → Own w1 w.heap.size 31 _ L), hK.trans L1.out⟩
          case measure => simp [intOf]; omega
        | true =>
          rw [hg] at hO1
          obtain ⟨g1, g2, g3⟩ := (gd_iff _).1 hg
          have gm : G [(x, y)] := ⟨⟨by show -1 < x; simp only at g1; omega, g2, trivial⟩, fun p hp => by rw [List.mem_singleton.1 hp]; exact g3⟩
          have HAL : Hid (∀ R, G R → (∀ z, hs R z = (hs L z || inS (x, y) z)) → R.length ≤ L.length + 1) := fun R hR hz => add_len hG hg hR hz
          have HB : Hid (∀ w' t, Kp wr w' → ∀ q, q = w'.heap.size → Calls Try.prog 27 #[_, .slice (some ⟨q, 0, none⟩) 1 1, .int .i64 0] (w'.alloc (.cells #[.int .i64 x, .int .i64 y] t)) fun e w'' => ∃ u R, e = .returned u ∧ SpIn w'' u R ∧ G R ∧ (∀ z, hs R z = kF 0 (hs L z) (hs [(x, y)] z)) ∧ Kp (w'.alloc (.cells #[.int .i64 x, .int .i64 y] t)) w'') := fun w' t k2 q hq =>
            both_any _ _ L [(x, y)] 0 (.inl rfl) _ (HQ.out.kept (k2.alloc _)) (SpIn.lit2 w' (x, y) t q hq) (by omega) (by simp) hG gm
          clear hg hO HO HQ HG hG gm g1 g2 g3
          go_wp2_with fail
          refine (hO1 _).mono ?_; rintro e w1 ⟨rfl, k1⟩
          have L1 : Hid (Kp wr w1) := (((Kp.refl wr).alloc _).alloc _).trans k1
          have d0 : w1.cell? ⟨wr.heap.size + 1, 0, none⟩ = some (.int .i64 x) := k1.held (by rw [World.cell?_alloc_at _ _ _ _ (by simp)]; rfl)
          have d1 : w1.cell? ⟨wr.heap.size + 1, 1, none⟩ = some (.int .i64 y) := k1.held (by rw [World.cell?_alloc_at _ _ _ _ (by simp)]; rfl)
          clear hO1 k1 c0 c1
          go_wp2_with fail
          refine Calls.mono (HB.out w1 _ L1.out _ (by rfl)) ?_; rintro e w3 ⟨u, R, rfl, hu, hGR, hx, k3⟩
          have hx2 : ∀ z, hs R z = (hs L z || inS (x, y) z) := fun z => by rw [hx z, hs_single]; rfl
          have HR : Hid (SpIn w3 u R ∧ G R ∧ R.length ≤ L.length + 1 ∧ Kp w w3) := ⟨hu, hGR, HAL.out R hGR hx2, ((hK.trans L1.out).alloc _).trans k3⟩
          clear HB HAL hu hGR hx hx2 k3 L1 d0 d1 hK
          go_wp2
          go_roundw
          case rel => exact ⟨k + 1, R, by omega, by go_num, by have := HR.out.2.2.1; omega, HR.out.1, fun _ => HR.out.2.1, (fun h => (by cases h) : true = false → Own w3 w.heap.size 31 u R), HR.out.2.2.2⟩
          case measure => simp [intOf]; omega
    · obtain ⟨a2, b2, o2, p2, e2v, hA2⟩ := HQ.out
      subst e2v
      have H2 : Hid (SpAt wr a2 b2 o2 p2 L) := hA2
      have ha2 := hA2.ha
      have hc2 := hA2.le
      have hm2 := hA2.mx
      unfold maxLen at hm2
      have hL40 : L.length ≤ 40 := by omega
      obtain ⟨m, hm⟩ : ∃ m, m = L.length := ⟨_, rfl⟩
      have HM : Hid (m = L.length) := hm
      rw [← hm] at ha2 hc2 hL40 ⊢
      obtain ⟨w5, hw5⟩ : ∃ w5, w5 = wr := ⟨_, rfl⟩
      rw [← hw5] at H2 hK ⊢
      have K5 : Hid (Kp w w5) := hK
      clear hO HO HQ hA2 hm hw5 hK hap HP hsl hmin
      go_wp2
      go_loopw [39, 10] (fun i q wr => ∃ k : Nat, k ≤ m ∧ i = .int .i64 k ∧ Hid (Own wr w5.heap.size 30 q (L.take k)) ∧ Kp w5 wr) (fun i _ _ => m - (intOf i).toNat)
      case atStart => exact ⟨0, by omega, rfl, World.ownsRow_nil _ _ _ _, Kp.refl w5⟩
      case round =>
        obtain ⟨k, hk, rfl, HO, hK⟩ := hrel
        by_cases hlt2 : k < m
        · obtain rfl := ha2 (by omega)
          have q1 : k < L.length := by rw [← HM.out]; exact hlt2
          have c0 := hK.held (H2.out.c0 k q1)
          have c1 := hK.held (H2.out.c1 k q1)
          have HT : Hid (L.take (k + 1) = L.take k ++ [L.getD k (0, 0)]) := take_at L k q1
          have hkl : (L.take k).length = k := by rw [List.length_take]; omega
          have HKL : Hid ((L.take k).length = k) := hkl
          obtain ⟨p, hp⟩ : ∃ p, p = L.getD k (0, 0) := ⟨_, rfl⟩
          rw [← hp] at c0 c1 HT
          clear hp q1 hkl
          obtain ⟨x, y⟩ := p
          simp only at c0 c1
          go_wp2_with (at_builtin; refine wpList_append_sp rfl _ _ 26 rfl w5.heap.size 30 elt26 _ (L.take k) rfl (((HO.out : Own wr w5.heap.size 30 _ _).alloc _).alloc _) _ [(x, y)] rfl (SpIn.lit2 _ (x, y) _ _ (by simp)) ?c1 ?c2 ?_; rotate_left; rotate_left; intro u2 w4 ho2 hg2 hr2)
          case c1 => have h5 := HKL.out; omega
          case c2 => have := hK.size; (try simp); omega
          have K4 : Kp w5 w4 := ((hK.alloc _).alloc _).grown hg2 (fun q hq => own_lt HO.out q hq)
          have HO2 : Hid (Own w4 w5.heap.size 30 u2 (L.take (k + 1))) := by rw [HT.out]; exact ho2
          clear ho2 hg2 hr2 HO hK c0 c1
          go_wp2
          go_roundw
          case rel => exact ⟨k + 1, by omega, by go_num, HO2, K4⟩
          case measure => simp [intOf]; omega
        · obtain rfl : k = m := by omega
          go_wp2
          go_ret2
          have h6 := HO.out
          rw [HM.out, List.take_length] at h6
          refine ⟨_, _, L, rfl, ⟨h6.sp, ⟨a2, b2, o2, p2, by rw [← HM.out]; rfl, H2.out.kept hK⟩, by rw [← HM.out]; exact hL40, K5.out.trans hK⟩, HG.out⟩
theorem lists_any (v : Value) (l : List (Int × Int)) (whole : Bool) (w : World) (h : SpIn w v l) : Calls Try.prog 9 #[v, .bool whole] w fun e w' => ∃ va vb L, e = .returned (.tuple #[va, vb]) ∧ LsR w w' va vb L ∧ (whole = true → G L) := by
  obtain ⟨a, b, off, cap, rfl, h⟩ := h
  exact lists_at a b off cap l whole w h

end Go.Proofs.Ytmkmejdbhikomaa
