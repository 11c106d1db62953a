/-
  What the document brings back (layer 5). Conditions: that the columns lie in memory.
-/
import Derived.Test.YtonooelffokfkaaGreatDoorZRep
import Derived.Deep.AppendLies
import Derived.Deep.RegionLaw
namespace Go.Proofs.YtonooelffokfkaaGreatDoor
open Go.RowKit Plain Go.BigFrame
set_option linter.unusedVariables false

/-! ### plain -/
theorem qb_append (m : Nat) (t : ByteArray) : ∀ l : List ByteArray, qb m (l ++ [t]) = qb m l ^^^ ml (pw l.length) (bAt t m)
  | [] => by
    show bAt t m ^^^ ml 2 0 = 0 ^^^ ml 1 (bAt t m)
    rw [ml_zero 2 (by omega), Nat.xor_zero, Nat.zero_xor, ml_one_left _ (bAt_lt _ _)]
  | s :: r => by
    show bAt s m ^^^ ml 2 (qb m (r ++ [t])) = bAt s m ^^^ ml 2 (qb m r) ^^^ ml (pw (r.length + 1)) (bAt t m)
    rw [qb_append m t r, ml_sum, ml_assoc 2 _ _ (by omega) (pw_lt _) (bAt_lt _ _), ml_comm 2 _ (by omega) (pw_lt _), ← pw_succ, Nat.xor_assoc]
theorem take_snoc {Z : List ByteArray} {i : Nat} (h : i < Z.length) : Z.take (i + 1) = Z.take i ++ [Z.getD i noS] := by
  rw [List.take_add_one, List.getElem?_eq_getElem h, List.getD_eq_getElem?_getD, List.getElem?_eq_getElem h]; rfl
theorem xb_step {Z : List ByteArray} {i : Nat} (h : i < Z.length) (m : Nat) : xb m (Z.take (i + 1)) = xb m (Z.take i) ^^^ bAt (Z.getD i noS) m := by rw [take_snoc h, xb_append]
theorem qb_next {Z : List ByteArray} {i : Nat} (h : i < Z.length) (m : Nat) : qb m (Z.take (i + 1)) = qb m (Z.take i) ^^^ ml (pw i) (bAt (Z.getD i noS) m) := by
  rw [take_snoc h, qb_append, List.length_take, Nat.min_eq_left (by omega)]
/-- columns with noughts in the place of the lost ones. -/
structure ZOk (L Z : List ByteArray) (k n : Nat) (lost : List Int) : Prop where
  len : L.length = k + 2
  zlen : Z.length = k + 2
  sz : Sz n Z
  same : ∀ i, i < k + 2 → lsB lost i = false → Z.getD i noS = L.getD i noS
  zero : ∀ i, i < k + 2 → lsB lost i = true → Z.getD i noS = zs n

/-! ### sums -/
set_option maxRecDepth 100000 in
set_option maxHeartbeats 4000000 in
theorem rsums_any {L Z : List ByteArray} {k n : Nat} {lost : List Int} (hz : ZOk L Z k n lost) (hk1 : 2 ≤ k) (hk2 : k ≤ 30) (cb co cc G gc m : Nat) (hcc : k + 2 ≤ cc) (hc2 : cc ≤ 9223372036854775807) (hgc : k + 2 ≤ gc) (hg2 : gc ≤ 9223372036854775807) (hn : n ≤ 65536) (hm : m < n) (w : World)
    (hc : ∀ i, i < k + 2 → w.cell? ⟨cb, co + i, none⟩ = some (.string (L.getD i noS))) (hB : ∀ i, i < k + 2 → w.cell? ⟨G, i, none⟩ = some (.bool (lsB lost i))) :
    Calls Tryz.prog 155 #[.slice (some ⟨cb, co, none⟩) (k + 2) cc, .slice (some ⟨G, 0, none⟩) (k + 2) gc, .int .i64 (m : Int)] w fun e w' => e = .returned (.tuple #[.int .u8 (xb m (Z.take k) : Nat), .int .u8 (qb m (Z.take k) : Nat)]) ∧ Kp w w' := by
  have HZ : Hid (ZOk L Z k n lost) := hz
  have HC : Hid (∀ i, i < k + 2 → w.cell? ⟨cb, co + i, none⟩ = some (.string (L.getD i noS))) := hc
  have HB : Hid (∀ i, i < k + 2 → w.cell? ⟨G, i, none⟩ = some (.bool (lsB lost i))) := hB
  clear hz hc hB
  go_enter Tryz.func155, Tryz.ntmps155
  go_wp2
  go_loopw [8, 9, 10] (fun p q iv wr => ∃ i : Nat, i ≤ k ∧ iv = .int .i64 i ∧ p = .int .u8 (xb m (Z.take i) : Nat) ∧ q = .int .u8 (qb m (Z.take i) : Nat) ∧ Kp w wr) (fun _ _ iv _ => k - (intOf iv).toNat)
  case atStart => exact ⟨0, Nat.zero_le _, rfl, rfl, rfl, Kp.refl w⟩
  case round =>
    obtain ⟨i, hi, rfl, rfl, rfl, hK⟩ := hrel
    by_cases hlt : i < k
    · have hcb := hK.held (HB.out i (by omega))
      have hci := hK.held (HC.out i (by omega))
      have hxs := xb_step (show i < Z.length by rw [HZ.out.zlen]; omega) m
      have hqs := qb_next (show i < Z.length by rw [HZ.out.zlen]; omega) m
      have bp := xx_lt m (Z.take i)
      have bq := qx_lt m (Z.take i)
      by_cases hb : lsB lost i = true
      · have hzero := HZ.out.zero i (by omega) hb
        have HX : Hid (xb m (Z.take (i + 1)) = xb m (Z.take i)) := by show _ = _; rw [hxs, hzero, zs_at, Nat.xor_zero]
        have HQ : Hid (qb m (Z.take (i + 1)) = qb m (Z.take i)) := by show _ = _; rw [hqs, hzero, zs_at, ml_zero _ (pw_lt _), Nat.xor_zero]
        rw [hb] at hcb
        clear hxs hqs hb hci hzero
        go_wp2
        go_roundw
        case rel => exact ⟨i + 1, by omega, by go_num, by rw [HX.out], by rw [HQ.out], hK⟩
        case measure => simp [intOf] <;> omega
      · have hb' : lsB lost i = false := by simpa using hb
        have hsame := HZ.out.same i (by omega) hb'
        have hsz : (L.getD i noS).size = n := by rw [← hsame]; exact HZ.out.sz.at i (by rw [HZ.out.zlen]; omega)
        rw [hsame] at hxs hqs
        rw [hb'] at hcb
        obtain ⟨s, hs⟩ : ∃ s, s = L.getD i noS := ⟨_, rfl⟩
        rw [← hs] at hxs hqs hci hsz
        have hms : m < s.size := by omega
        have hsm : s.size ≤ 65536 := by omega
        obtain ⟨x, hx⟩ : ∃ x, (s[m]'hms).toNat = x := ⟨_, rfl⟩
        have hxb : bAt s m = x := by rw [bAt_nat s m hms]; exact hx
        have hx256 : x < 256 := by rw [← hx]; exact UInt8.toNat_lt _
        rw [hxb] at hxs hqs
        have hP := fun w' => rpower_any (i : Int) (by omega) (by omega) w'
        rw [pwI_in i (by omega)] at hP
        have hM := fun w' => rmul_any (pw i) x (pw_lt i) hx256 w'
        have hml := ml_lt (pw i) x (pw_lt i)
        obtain ⟨y, hy⟩ : ∃ y, y = ml (pw i) x := ⟨_, rfl⟩
        rw [← hy] at hM hqs hml
        obtain ⟨P, hPe⟩ : ∃ P, P = xb m (Z.take i) := ⟨_, rfl⟩
        obtain ⟨Q, hQe⟩ : ∃ P, P = qb m (Z.take i) := ⟨_, rfl⟩
        rw [← hPe] at hxs bp ⊢
        rw [← hQe] at hqs bq ⊢
        have e1 := u8_xor P x bp hx256
        have e2 := u8_xor Q y bq hml
        rw [← hxs] at e1
        rw [← hqs] at e2
        obtain ⟨P', hP'⟩ : ∃ P, P = xb m (Z.take (i + 1)) := ⟨_, rfl⟩
        obtain ⟨Q', hQ'⟩ : ∃ P, P = qb m (Z.take (i + 1)) := ⟨_, rfl⟩
        rw [← hP'] at e1
        rw [← hQ'] at e2
        have HP' : Hid (P' = xb m (Z.take (i + 1))) := hP'
        have HQ' : Hid (Q' = qb m (Z.take (i + 1))) := hQ'
        obtain ⟨pwi, hpw⟩ : ∃ z, z = pw i := ⟨_, rfl⟩
        rw [← hpw] at hP hM
        have hpl : pwi < 256 := by rw [hpw]; exact pw_lt i
        clear hxs hqs hb hb' hsame hs hxb hy hPe hQe hP' hQ' hsz hpw
        go_wp2_with fail
        refine (hP wr).mono ?_; rintro e w2 ⟨rfl, k2⟩
        have hci2 := k2.held hci
        clear hP hci
        go_wp2_with fail
        refine (hM w2).mono ?_; rintro e w3 ⟨rfl, k3⟩
        have hci3 := k3.held hci2
        clear hM hci2
        go_wp2
        go_roundw
        case rel => exact ⟨i + 1, by omega, by go_num, by rw [HP'.out], by rw [HQ'.out], (hK.trans k2).trans k3⟩
        case measure => simp [intOf] <;> omega
    · obtain rfl : i = k := by omega
      go_wp2
      go_ret2
      exact ⟨rfl, hK⟩

/-! ### a quotient -/
set_option maxRecDepth 100000 in
set_option maxHeartbeats 2000000 in
theorem rdiv_any (x y : Nat) (hx : x < 256) (hy : y < 256) (hy0 : y ≠ 0) (w : World) :
    Calls Tryz.prog 156 #[.int .u8 x, .int .u8 y] w fun e w' => e = .returned (.tuple #[.int .u8 (dv x y : Nat), .int .i64 0]) ∧ Kp w w' := by
  have ey : ((y : Int) == 0) = false := by simp; omega
  have HY : Hid (y ≠ 0) := hy0
  clear hy0
  go_enter Tryz.func156, Tryz.ntmps156
  go_wp2
  go_loopw [6] (fun i wr => ∃ j : Nat, j ≤ 256 ∧ i = .int .i64 j ∧ (∀ t, t < j → ml t y ≠ x) ∧ Kp w wr) (fun i _ => 256 - (intOf i).toNat)
  case atStart => exact ⟨0, by omega, rfl, fun t ht => absurd ht (by omega), Kp.refl w⟩
  case round =>
    obtain ⟨j, hj, rfl, hA, hE⟩ := hrel
    have HE : Hid (Kp w wr) := hE
    have HA : Hid (∀ t, t < j → ml t y ≠ x) := hA
    clear hE hA
    by_cases hlt : j < 256
    · go_wp2_with fail
      refine (rmul_any j y hlt hy _).mono ?_; rintro e w1 ⟨rfl, hw1⟩
      have H1 : Hid (Kp wr w1) := hw1
      clear hw1
      by_cases hh : ml j y = x
      · have HF : Hid (dv x y = j) := (dv_only j x y hlt hy HY.out hh).symm
        have ht : ((ml j y : Int) == (x : Int)) = true := by rw [hh]; simp
        clear hh
        go_wp2
        go_ret2
        exact ⟨by rw [HF.out]; rfl, HE.out.trans H1.out⟩
      · have ht : ((ml j y : Int) == (x : Int)) = false := by simp; omega
        have HH : Hid (ml j y ≠ x) := hh
        clear hh
        go_wp2
        go_roundw
        case rel =>
          refine ⟨j + 1, by omega, by go_num, fun t ht => ?_, HE.out.trans H1.out⟩
          by_cases he : t = j
          · rw [he]; exact HH.out
          · exact HA.out t (by omega)
        case measure => simp [intOf]; omega
    · exact absurd (dv_back x y hx hy HY.out) (HA.out (dv x y) (by have := dv_lt x y; omega))


/-! ### plain -/
theorem sol_one {A B P Q x : Nat} (hA : A < 256) (hB : B < 256) (hP : P < 256) (hQ : Q < 256) (hx : x < 256) (h0 : A ^^^ B ≠ 0) : ml A x ^^^ ml B (P ^^^ x) = Q ↔ x = ml (dv 1 (A ^^^ B)) (Q ^^^ ml B P) := by
  have hC : A ^^^ B < 256 := Nat.xor_lt_two_pow (n := 8) hA hB
  have e : ml A x ^^^ ml B (P ^^^ x) = ml (A ^^^ B) x ^^^ ml B P := by
    rw [ml_sum, Nat.xor_comm (ml B P), ← Nat.xor_assoc, ml_comm A x hA hx, ml_comm B x hB hx, ← ml_sum, ml_comm x _ hx hC]
  have hy : Q ^^^ ml B P < 256 := Nat.xor_lt_two_pow (n := 8) hQ (ml_lt _ _ hB)
  rw [e]
  constructor
  · intro h
    have h' : Q ^^^ ml B P = ml (A ^^^ B) x := by rw [← h, Nat.xor_assoc, Nat.xor_self, Nat.xor_zero]
    rw [h', dv_inv _ _ hC h0 hx]
  · intro h
    have h' : ml (A ^^^ B) x = Q ^^^ ml B P := by
      rw [h, ml_assoc _ _ _ hC (dv_lt 1 _) hy, ml_comm _ _ hC (dv_lt 1 _), dv_back 1 _ (by omega) hC h0, ml_one_left _ hy]
    rw [h', Nat.xor_assoc, Nat.xor_self, Nat.xor_zero]
/-- the bytes of the lost data columns, by what P and Q lack. -/
def dtL (p q : Nat) (bP : Bool) : List Nat → List Nat
  | [] => []
  | [i] => if bP then [dv q (pw i)] else [p]
  | [i, j] => [ml (dv 1 (pw i ^^^ pw j)) (q ^^^ ml (pw j) p), p ^^^ ml (dv 1 (pw i ^^^ pw j)) (q ^^^ ml (pw j) p)]
  | _ => []
theorem gn_snoc {m : Nat} {l : List Int} (h : lsB l m = true) : gn (m + 1) l = gn m l ++ [m] := by
  unfold lsB at h
  unfold gn; rw [List.range_succ, List.filter_append]; simp [h]
theorem gn_same {m : Nat} {l : List Int} (h : lsB l m = false) : gn (m + 1) l = gn m l := by
  unfold lsB at h
  unfold gn; rw [List.range_succ, List.filter_append]; simp [h]
/-- what data answers: at most two bytes in a block of the call's own. -/
structure DatIn (w : World) (B : Nat) (v : Value) (T : List Nat) : Prop where
  v : ∃ a D cap, v = .slice a T.length cap ∧ T.length ≤ cap ∧ cap ≤ 2 ∧ B ≤ D ∧ (0 < T.length → a = some ⟨D, 0, none⟩) ∧ ∀ j, j < T.length → w.cell? ⟨D, j, none⟩ = some (.int .u8 (T.getD j 0 : Nat))
theorem DatIn.none (w : World) (B : Nat) : DatIn w B (.slice none 0 0) [] := ⟨⟨Option.none, B, 0, rfl, by simp, by omega, Nat.le_refl _, fun h => absurd h (by simp), fun j hj => absurd hj (by simp)⟩⟩
theorem DatIn.one {w : World} {B : Nat} (hB : B ≤ w.heap.size) (x : Nat) (t : TypeId) : DatIn (w.alloc (.cells #[.int .u8 x] t)) B (.slice (some ⟨w.heap.size, 0, Option.none⟩) 1 1) [x] := ⟨⟨_, w.heap.size, 1, rfl, by simp, by omega, hB, fun _ => rfl, fun j hj => by
  have : j = 0 := by simp at hj; exact hj
  subst this; rw [World.cell?_alloc_at _ _ _ _ rfl]; rfl⟩⟩
theorem DatIn.two {w : World} {B : Nat} (hB : B ≤ w.heap.size) (x y : Nat) (t : TypeId) : DatIn (w.alloc (.cells #[.int .u8 x, .int .u8 y] t)) B (.slice (some ⟨w.heap.size, 0, Option.none⟩) 2 2) [x, y] := ⟨⟨_, w.heap.size, 2, rfl, by simp, by omega, hB, fun _ => rfl, fun j hj => by
  have : j = 0 ∨ j = 1 := by simp at hj; omega
  rcases this with rfl | rfl <;> rw [World.cell?_alloc_at _ _ _ _ rfl] <;> rfl⟩⟩
theorem own_int {w : World} {base g cp n : Nat} {e : TypeId} {M : List Nat} (h : w.ownsRow base e 1 (.slice (some ⟨g, 0, none⟩) n cp) n (M.map (fun i : Nat => Value.int .i64 i))) (hM : M.length = n) (j : Nat) (hj : j < n) : w.cell? ⟨g, j, none⟩ = some (.int .i64 (M.getD j 0 : Nat)) := by
  rw [h.cellAt j (by omega), List.getElem?_map, List.getElem?_eq_getElem (by omega), List.getD_eq_getElem?_getD, List.getElem?_eq_getElem (by omega)]; rfl

/-! ### data -/
set_option maxRecDepth 100000 in
set_option maxHeartbeats 8000000 in
theorem rdata_any {L Z : List ByteArray} {k n : Nat} {lost : List Int} (hz : ZOk L Z k n lost) (hk1 : 2 ≤ k) (hk2 : k ≤ 30) (cb co cc G gc m : Nat) (hcc : k + 2 ≤ cc) (hc2 : cc ≤ 9223372036854775807) (hgc : k + 2 ≤ gc) (hg2 : gc ≤ 9223372036854775807) (hn : n ≤ 65536) (hm : m < n) (hgl : (gn k lost).length ≤ 2) (w : World)
    (hc : ∀ i, i < k + 2 → w.cell? ⟨cb, co + i, none⟩ = some (.string (L.getD i noS))) (hB : ∀ i, i < k + 2 → w.cell? ⟨G, i, none⟩ = some (.bool (lsB lost i))) :
    Calls Tryz.prog 119 #[.slice (some ⟨cb, co, none⟩) (k + 2) cc, .slice (some ⟨G, 0, none⟩) (k + 2) gc, .int .i64 (m : Int)] w fun e w' => ∃ v, e = .returned v ∧ DatIn w' w.heap.size v (dtL (xb m (Z.take (k + 1))) (qb m (Z.take k) ^^^ bAt (Z.getD (k + 1) noS) m) (lsB lost k) (gn k lost)) ∧ Kp w w' := by
  obtain ⟨i0, hi, hz0, hz1, hz2⟩ := info_parts info_int
  have hS := rsums_any hz hk1 hk2 cb co cc G gc m hcc hc2 hgc hg2 hn hm w hc hB
  have hzl := hz.zlen
  have hxs := xb_step (show k < Z.length by omega) m
  have bp := xx_lt m (Z.take k)
  have bq := qx_lt m (Z.take k)
  have bp' := xx_lt m (Z.take (k + 1))
  have hsz : ∀ i, i < k + 2 → lsB lost i = false → (L.getD i noS).size = n := fun i hi hb => by rw [← hz.same i hi hb]; exact hz.sz.at i (by omega)
  obtain ⟨P, hPe⟩ : ∃ P, P = xb m (Z.take k) := ⟨_, rfl⟩
  obtain ⟨Q, hQe⟩ : ∃ P, P = qb m (Z.take k) := ⟨_, rfl⟩
  obtain ⟨P', hPe'⟩ : ∃ P, P = xb m (Z.take (k + 1)) := ⟨_, rfl⟩
  obtain ⟨Q', hQe'⟩ : ∃ P, P = Q ^^^ bAt (Z.getD (k + 1) noS) m := ⟨_, rfl⟩
  have bq' : Q' < 256 := by rw [hQe']; exact Nat.xor_lt_two_pow (n := 8) (by rw [hQe]; exact bq) (bAt_lt _ _)
  rw [← hPe, ← hQe] at hS
  rw [← hPe'] at bp' hxs
  rw [← hPe] at hxs bp
  rw [← hQe] at bq
  rw [← hPe', ← hQe, ← hQe']
  have cP := hc k (by omega)
  have cQ := hc (k + 1) (by omega)
  have gP := hB k (by omega)
  have gQ := hB (k + 1) (by omega)
  have HB : Hid (∀ i, i < k + 2 → w.cell? ⟨G, i, none⟩ = some (.bool (lsB lost i))) := hB
  have hsP : lsB lost k = false → (L.getD k noS).size = n := hsz k (by omega)
  have hsQ : lsB lost (k + 1) = false → (L.getD (k + 1) noS).size = n := hsz (k + 1) (by omega)
  have zP := hz.same k (by omega)
  have zQ := hz.same (k + 1) (by omega)
  obtain ⟨sP, hsP'⟩ : ∃ s, s = L.getD k noS := ⟨_, rfl⟩
  obtain ⟨sQ, hsQ'⟩ : ∃ s, s = L.getD (k + 1) noS := ⟨_, rfl⟩
  rw [← hsP'] at cP hsP zP
  rw [← hsQ'] at cQ hsQ zQ
  -- what P says
  have hPx : (lsB lost k = true ∧ P' = P) ∨ (lsB lost k = false ∧ ∃ x : Nat, ∃ h : m < sP.size, ((sP[m]'h).toNat = x) ∧ bits .xor .u8 (P : Int) (x : Int) = (P' : Int)) := by
    cases hb : lsB lost k with
    | true => exact .inl ⟨rfl, by rw [hxs, hz.zero k (by omega) hb, zs_at, Nat.xor_zero]⟩
    | false =>
      have hm' : m < sP.size := by rw [hsP hb]; exact hm
      refine .inr ⟨rfl, _, hm', rfl, ?_⟩
      rw [u8_xor P _ bp (UInt8.toNat_lt _), hxs, zP hb, bAt_nat _ m hm']
  have hQx : (lsB lost (k + 1) = true ∧ Q' = Q) ∨ (lsB lost (k + 1) = false ∧ ∃ x : Nat, ∃ h : m < sQ.size, ((sQ[m]'h).toNat = x) ∧ bits .xor .u8 (Q : Int) (x : Int) = (Q' : Int)) := by
    cases hb : lsB lost (k + 1) with
    | true => exact .inl ⟨rfl, by rw [hQe', hz.zero (k + 1) (by omega) hb, zs_at, Nat.xor_zero]⟩
    | false =>
      have hm' : m < sQ.size := by rw [hsQ hb]; exact hm
      refine .inr ⟨rfl, _, hm', rfl, ?_⟩
      rw [u8_xor Q _ bq (UInt8.toNat_lt _), hQe', zQ hb, bAt_nat _ m hm']
  obtain ⟨bP, hbP⟩ : ∃ b, b = lsB lost k := ⟨_, rfl⟩
  obtain ⟨bQ, hbQ⟩ : ∃ b, b = lsB lost (k + 1) := ⟨_, rfl⟩
  rw [← hbP] at hPx gP hsP ⊢
  rw [← hbQ] at hQx gQ hsQ
  have HT : Hid (∀ c, c < k → lsB lost c = true → gn (c + 1) lost = gn c lost ++ [c]) := fun c _ h => gn_snoc h
  have HR : Hid (∀ x, x ∈ gn k lost → x < k) := fun x hx => ((gn_mem k lost x).1 hx).1
  have HW : Hid ((gn k lost).Pairwise (fun x y => x < y)) := gn_lt k lost
  obtain ⟨T, hT⟩ : ∃ T, T = gn k lost := ⟨_, rfl⟩
  have HTT : Hid (T = gn k lost) := hT
  rw [← hT] at hgl HR HW ⊢
  clear hT
  clear hc hB hxs hPe hQe hPe' hQe' hsz hsP' hsQ' zP zQ hbP hbQ hz hzl
  go_enter Tryz.func119, Tryz.ntmps119
  go_wp2_with fail
  refine hS.mono ?_; rintro e w1 ⟨rfl, k1⟩
  have cP1 := k1.held cP
  have cQ1 := k1.held cQ
  have gP1 := k1.held gP
  have gQ1 := k1.held gQ
  have HGP : Hid (w.cell? ⟨G, k, none⟩ = some (.bool bP)) := gP
  clear hS cP cQ gP gQ
  rcases hPx with ⟨rfl, rfl⟩ | ⟨rfl, xP, hmP, hxP, eP⟩ <;> rcases hQx with ⟨rfl, rfl⟩ | ⟨rfl, xQ, hmQ, hxQ, eQ⟩
  all_goals (try have hsP2 := hsP rfl)
  all_goals (try have hsQ2 := hsQ rfl)
  all_goals clear hsP hsQ
  all_goals (try have hxP2 : xP < 256 := by rw [← hxP]; exact UInt8.toNat_lt _)
  all_goals (try have hxQ2 : xQ < 256 := by rw [← hxQ]; exact UInt8.toNat_lt _)
  all_goals go_wp2
  all_goals (
    go_loopw [10, 11] (fun v i wr => ∃ c : Nat, c ≤ k ∧ i = .int .i64 c ∧ wr.ownsRow w.heap.size 3 1 v (gn c lost).length ((gn c lost).map (fun i : Nat => Value.int .i64 i)) ∧ Kp w wr) (fun _ i _ => k - (intOf i).toNat)
    case atStart => exact ⟨0, by omega, rfl, World.ownsRow_nil _ _ _ _, k1⟩
    case round =>
      obtain ⟨c, hc, rfl, hown, hK⟩ := hrel
      by_cases hlt : c < k
      · have gc1 := hK.held (HB.out c (by omega))
        have hle := gn_le c lost
        have hz := hK.size
        by_cases hb : lsB lost c = true
        · have HO : Hid (gn (c + 1) lost = gn c lost ++ [c]) := gn_snoc hb
          rw [hb] at gc1
          clear hb
          go_wp2_with (at_builtin; refine wpList_append_own _ rfl _ _ 22 rfl w.heap.size 3 i0 (.int .i64 0) 1 8 Tryz.underlying22 hi hz0 hz1 hz2 rfl (by decide) _ _ _ rfl (hown.alloc _) ⟨wr.heap.size, 0, none⟩ 1 1 [.int .i64 c] rfl rfl ?c1 ?c2 ?c3 ?c4 ?c5 ?_)
          case c1 =>
            intro j u hj
            match j, hj with
            | 0, hj => simp at hj; subst hj; simp [Addr.add]
          case c2 => intro u hu; simp at hu; subst hu; rfl
          case c3 => unfold maxLen; omega
          case c4 => omega
          case c5 => simp; omega
          · intro v' w3 hown3 hgrow3 _
            have hK3 : Kp w w3 := (hK.alloc _).grown hgrow3 (own_lt hown)
            clear hgrow3 hown hK
            go_wp2
            go_roundw
            case rel => exact ⟨c + 1, by omega, by go_num, by rw [HO.out]; simpa using hown3, hK3⟩
            case measure => simp [intOf] <;> omega
        · have hb' : lsB lost c = false := by simpa using hb
          have HO : Hid (gn (c + 1) lost = gn c lost) := gn_same hb'
          rw [hb'] at gc1
          clear hb hb'
          go_wp2
          go_roundw
          case rel => exact ⟨c + 1, by omega, by go_num, by rw [HO.out]; exact hown, hK⟩
          case measure => simp [intOf] <;> omega
      · obtain rfl : c = k := by omega
        have gPr := hK.held HGP.out
        have hr2 : ∀ x, x ∈ T → x < 30 := fun x hx => by have := HR.out x hx; omega
        have hw2 := HW.out
        rw [← HTT.out] at hown
        clear HTT HB HT HR HW k1 HGP gP1 gQ1 cP1 cQ1
        rcases T with _ | ⟨i, _ | ⟨j, _ | ⟨_, _⟩⟩⟩
        · rcases hown.2 with ⟨rfl, h0⟩ | ⟨Kb, kc, cur, rfl, hKb, hcur, r1, r2, r3, r4⟩
          · go_wp2
            go_ret
            exact ⟨_, rfl, DatIn.none _ _, hK⟩
          · clear hcur r3 r4 hown
            go_wp2
            go_ret
            exact ⟨_, rfl, DatIn.none _ _, hK⟩
        · rcases hown.2 with ⟨rfl, h0⟩ | ⟨Kb, kc, cur, rfl, hKb, hcur, r1, r2, r3, r4⟩
          · cases h0
          · have ci := own_int hown rfl 0 (by simp)
            simp only [List.length_cons, List.length_nil, Nat.zero_add, List.getD_cons_zero] at ci r1
            have hi30 := hr2 i (by simp)
            have hP := fun w' => rpower_any (i : Int) (by omega) (by omega) w'
            rw [pwI_in i (by omega)] at hP
            have hD := fun w' => rdiv_any Q' (pw i) bq' (pw_lt i) (pw_ne0 i) w'
            have hpl := pw_lt i
            have hdl := dv_lt Q' (pw i)
            have HL1 : Hid (dtL P' Q' true [i] = [dv Q' (pw i)]) := rfl
            have HL2 : Hid (dtL P' Q' false [i] = [P']) := rfl
            obtain ⟨d, hd⟩ : ∃ d, d = dv Q' (pw i) := ⟨_, rfl⟩
            rw [← hd] at hD hdl HL1
            obtain ⟨y, hy⟩ : ∃ y, y = pw i := ⟨_, rfl⟩
            rw [← hy] at hP hD hpl
            have hz := hK.size
            simp only [List.length_cons, List.length_nil, Nat.zero_add]
            clear hcur r3 r4 hown hd hy
            first
            | (have gPr' : wr.cell? ⟨G, c, none⟩ = some (.bool false) := gPr
               clear gPr
               clear HL1 hP hD
               go_wp2
               go_ret
               exact ⟨_, rfl, by rw [HL2.out]; exact DatIn.one hz _ _, hK.alloc _⟩)
            | (clear HL2
               go_wp2_with fail
               refine (hP wr).mono ?_; rintro e w2 ⟨rfl, k2⟩
               have K2 := hK.trans k2
               clear hP hK k2
               go_wp2_with fail
               refine (hD w2).mono ?_; rintro e w3 ⟨rfl, k3⟩
               have K3 := K2.trans k3
               have hz3 := K3.size
               clear hD K2 k3
               go_wp2
               go_ret
               exact ⟨_, rfl, by rw [HL1.out]; exact DatIn.one hz3 _ _, K3.alloc _⟩)
        · rcases hown.2 with ⟨rfl, h0⟩ | ⟨Kb, kc, cur, rfl, hKb, hcur, r1, r2, r3, r4⟩
          · cases h0
          · have ci := own_int hown rfl 0 (by simp)
            have cj := own_int hown rfl 1 (by simp)
            simp only [List.length_cons, List.length_nil, Nat.zero_add, Nat.reduceAdd, List.getD_cons_zero, List.getD_cons_succ] at ci cj r1
            have hi30 := hr2 i (by simp)
            have hj30 := hr2 j (by simp)
            have hij : i < j := by simpa using hw2
            have hP := fun w' => rpower_any (i : Int) (by omega) (by omega) w'
            rw [pwI_in i (by omega)] at hP
            have hPj := fun w' => rpower_any (j : Int) (by omega) (by omega) w'
            rw [pwI_in j (by omega)] at hPj
            have hap := pw_apart (show i < 255 by omega) (show j < 255 by omega) (by omega)
            have hpl := pw_lt i
            have hpj := pw_lt j
            have HL1 : Hid (∀ b, dtL P' Q' b [i, j] = [ml (dv 1 (pw i ^^^ pw j)) (Q' ^^^ ml (pw j) P'), P' ^^^ ml (dv 1 (pw i ^^^ pw j)) (Q' ^^^ ml (pw j) P')]) := fun b => rfl
            obtain ⟨A, hA⟩ : ∃ A, A = pw i := ⟨_, rfl⟩
            obtain ⟨B, hB⟩ : ∃ B, B = pw j := ⟨_, rfl⟩
            rw [← hA] at hP hpl hap HL1
            rw [← hB] at hPj hpj hap HL1
            have HS : Hid (∀ x, x < 256 → (ml A x ^^^ ml B (P' ^^^ x) = Q' ↔ x = ml (dv 1 (A ^^^ B)) (Q' ^^^ ml B P'))) := fun x hx => sol_one hpl hpj bp' bq' hx hap
            have hX : ml (dv 1 (A ^^^ B)) (Q' ^^^ ml B P') < 256 := ml_lt _ _ (dv_lt 1 _)
            obtain ⟨X, hXe⟩ : ∃ X, X = ml (dv 1 (A ^^^ B)) (Q' ^^^ ml B P') := ⟨_, rfl⟩
            rw [← hXe] at HS hX HL1
            have hz := hK.size
            simp only [List.length_cons, List.length_nil, Nat.zero_add, Nat.reduceAdd]
            clear hcur r3 r4 hown hA hB hXe hap
            go_wp2_with fail
            refine (hP wr).mono ?_; rintro e w2 ⟨rfl, k2⟩
            have K2 := hK.trans k2
            have cj2 := k2.held cj
            clear hP hK k2 ci cj gPr
            go_wp2_with fail
            refine (hPj w2).mono ?_; rintro e w3 ⟨rfl, k3⟩
            have K3 := K2.trans k3
            clear hPj K2 k3 cj2
            go_wp2
            go_loopw [16] (fun i wr => ∃ x : Nat, x ≤ 256 ∧ i = .int .i64 x ∧ x ≤ X ∧ Kp w wr) (fun i _ => 256 - (intOf i).toNat)
            case atStart => exact ⟨0, by omega, rfl, by omega, K3⟩
            case round =>
              obtain ⟨x, hx, rfl, hxX, hK⟩ := hrel
              clear K3
              have hx256 : x < 256 := by omega
              have e1 := u8_xor P' x bp' hx256
              have hy : P' ^^^ x < 256 := Nat.xor_lt_two_pow (n := 8) bp' hx256
              have hs := HS.out x hx256
              obtain ⟨y, hye⟩ : ∃ y, y = P' ^^^ x := ⟨_, rfl⟩
              have HY : Hid (y = P' ^^^ x) := hye
              rw [← hye] at e1 hy hs
              have hM1 := fun w' => rmul_any A x hpl hx256 w'
              have hM2 := fun w' => rmul_any B y hpj hy w'
              have b1 := ml_lt A x hpl
              have b2 := ml_lt B y hpj
              obtain ⟨u, hu⟩ : ∃ u, u = ml A x := ⟨_, rfl⟩
              obtain ⟨v, hv⟩ : ∃ v, v = ml B y := ⟨_, rfl⟩
              rw [← hu] at hM1 b1 hs
              rw [← hv] at hM2 b2 hs
              have e2 := u8_xor u v b1 b2
              obtain ⟨t, ht⟩ : ∃ t, t = u ^^^ v := ⟨_, rfl⟩
              rw [← ht] at e2 hs
              clear hye hu hv ht
              go_wp2_with fail
              refine (hM1 _).mono ?_; rintro e w5 ⟨rfl, k5⟩
              have K5 := hK.trans k5
              clear hM1 k5 hK
              go_wp2_with fail
              refine (hM2 _).mono ?_; rintro e w6 ⟨rfl, k6⟩
              have K6 := K5.trans k6
              have hz6 := K6.size
              clear hM2 k6 K5
              by_cases hh : t = Q'
              · have HX : Hid (x = X) := hs.1 hh
                have ht : ((t : Int) == (Q' : Int)) = true := by rw [hh]; simp
                clear hs hh
                go_wp2
                go_ret
                exact ⟨_, rfl, by rw [HL1.out, ← HX.out, ← HY.out]; exact DatIn.two hz6 _ _ _, K6.alloc _⟩
              · have ht : ((t : Int) == (Q' : Int)) = false := by simp; omega
                have HX : Hid (x ≠ X) := fun e => hh (hs.2 e)
                clear hs hh
                go_wp2
                go_roundw
                case rel => exact ⟨x + 1, by omega, by go_num, by have := HX.out; omega, K6⟩
                case measure => simp [intOf]; omega
        · simp at hgl)


def bRow (n : Nat) (F : Nat → Nat) : List Value := (List.range n).map fun j => Value.int .u8 ((F j : Nat) : Int)
theorem bRow_snoc (n : Nat) (F : Nat → Nat) : bRow n F ++ [Value.int .u8 ((F n : Nat) : Int)] = bRow (n + 1) F := snoc (fun j => Value.int .u8 ((F j : Nat) : Int)) n
/-- block O holds N lists of bytes, each in a block of its own. -/
structure OutIn (base : Nat) (W : World) (O N : Nat) (V : Nat → Value) (c : Nat → Nat) (F : Nat → Nat → Nat) : Prop where
  hO : base ≤ O ∧ O < W.heap.size
  cl : ∀ i, i < N → W.cell? ⟨O, i, none⟩ = some (V i)
  z : ∀ o, W.frozen? ⟨O, o, none⟩ = false
  r : ∀ i, i < N → W.ownsRow base 5 1 (V i) (c i) (bRow (c i) (F i))
  o : ∀ i, i < N → (V i).ownBlock ≠ some O
  d : ∀ i j, i < N → j < N → i ≠ j → ∀ x, (V i).ownBlock = some x → (V j).ownBlock ≠ some x
/-- a cell that none of them is. -/
structure Far (W : World) (O N : Nat) (V : Nat → Value) (b o : Nat) (u : Value) : Prop where
  c : W.cell? ⟨b, o, none⟩ = some u
  n : b ≠ O
  r : ∀ i, i < N → (V i).ownBlock ≠ some b
theorem OutIn.new {base : Nat} {w : World} (hb : base ≤ w.heap.size) (N M : Nat) (hNM : N ≤ M) (t : TypeId) (F : Nat → Nat → Nat) : OutIn base (w.alloc (.cells (madeCells #[.slice none 0 0] M) t)) w.heap.size N (fun _ => .slice none 0 0) (fun _ => 0) F := by
  refine ⟨⟨hb, by simp⟩, fun i hi => ?_, fun o => ?_, fun i hi => World.ownsRow_nil _ _ _ _, fun i hi => by simp [Value.ownBlock], fun i j hi hj h x hx => by simp [Value.ownBlock] at hx⟩
  · rw [World.cell?_alloc_at _ _ _ _ rfl, ← Array.getElem?_toList, toList_madeCells_one, List.getElem?_replicate, if_pos (by omega)]
  · rw [frozen?_alloc_cells]; simp [World.frozen?]
theorem OutIn.kp {base : Nat} {W W' : World} {O N : Nat} {V : Nat → Value} {c : Nat → Nat} {F : Nat → Nat → Nat} (h : OutIn base W O N V c F) (k : Kp W W') : OutIn base W' O N V c F :=
  ⟨⟨h.hO.1, Nat.lt_of_lt_of_le h.hO.2 k.size⟩, fun i hi => k.held (h.cl i hi), fun o => (Below.frozen (p := ⟨O, o, none⟩) k h.hO.2).trans (h.z o), fun i hi => k.own (h.r i hi), h.o, h.d⟩
theorem OutIn.congr {base : Nat} {W : World} {O N : Nat} {V : Nat → Value} {c c' : Nat → Nat} {F : Nat → Nat → Nat} (h : OutIn base W O N V c F) (e : ∀ i, i < N → c i = c' i) : OutIn base W O N V c' F :=
  ⟨h.hO, h.cl, h.z, fun i hi => by rw [← e i hi]; exact h.r i hi, h.o, h.d⟩
theorem grow_set (w : World) (b i : Nat) (v : Value) : w.grownBy (w.setCell ⟨b, i, none⟩ v) (some b) :=
  ⟨rfl, rfl, rfl, by simp [World.setCell], fun k _ hk => Below.heap_setCell _ _ _ _ (fun e => hk (by simp [e]))⟩
def upV (V : Nat → Value) (i : Nat) (v : Value) : Nat → Value := fun j => if j = i then v else V j
def upC (c : Nat → Nat) (i : Nat) : Nat → Nat := fun j => if j = i then c j + 1 else c j
theorem OutIn.step {base : Nat} {W0 W W' : World} {O N : Nat} {V : Nat → Value} {c : Nat → Nat} {F : Nat → Nat → Nat} (h : OutIn base W0 O N V c F) (k : Kp W0 W) {i : Nat} (hi : i < N) {g cap : Nat} {v : Value} (hv : v = .slice (some ⟨g, 0, none⟩) (c i + 1) cap)
    (hr : W'.ownsRow base 5 1 v (c i + 1) (bRow (c i + 1) (F i))) (hg : W.grownBy W' (V i).ownBlock) (hat : (V i).ownBlock = some g ∨ g = W.heap.size) :
    OutIn base (W'.setCell ⟨O, i, none⟩ v) O N (upV V i v) (upC c i) F ∧ (∀ b o u, Far W0 O N V b o u → Far (W'.setCell ⟨O, i, none⟩ v) O N (upV V i v) b o u) ∧ W'.cell? ⟨O, i, none⟩ = some (V i) ∧ W'.frozen? ⟨O, i, none⟩ = false := by
  have h1 := h.kp k
  have hgO : g ≠ O := by
    rcases hat with e | e
    · rintro rfl; exact h.o i hi e
    · have := h1.hO.2; omega
  have hvb : v.ownBlock = some g := by rw [hv]; rfl
  have hOc : ∀ o, W'.cell? ⟨O, o, none⟩ = W.cell? ⟨O, o, none⟩ := fun o => hg.cell_far ⟨O, o, none⟩ h1.hO.2 (fun e => h.o i hi e.symm)
  have hOz : ∀ o, W'.frozen? ⟨O, o, none⟩ = false := fun o => (hg.frozen_far ⟨O, o, none⟩ h1.hO.2 (fun e => h.o i hi e.symm)).trans (h1.z o)
  have hci : W'.cell? ⟨O, i, none⟩ = some (V i) := (hOc i).trans (h1.cl i hi)
  have hS := grow_set W' O i v
  have hne : ∀ j, j < N → j ≠ i → ∀ x, (V j).ownBlock = some x → x ≠ g := fun j hj hji x hx e => by
    subst e
    rcases hat with e | e
    · exact h.d j i hj hi hji x hx e
    · have := ((h1.r j hj).lt x hx).2; omega
  refine ⟨⟨⟨h.hO.1, ?_⟩, fun j hj => ?_, fun o => (World.frozen?_setCell _ _ _ _).trans (hOz o), fun j hj => ?_, fun j hj => ?_, fun j l hj hl hjl x hx => ?_⟩, fun b o u hf => ⟨?_, hf.n, fun j hj => ?_⟩, hci, hOz i⟩
  · rw [World.size_setCell]; exact Nat.lt_of_lt_of_le h1.hO.2 hg.size
  · by_cases e : j = i
    · subst e; rw [World.cell?_setCell_same _ _ _ hci]; simp [upV]
    · rw [cell_off _ _ _ _ _ e, hOc j, h1.cl j hj]; simp [upV, e]
  · by_cases e : j = i
    · subst e
      have e1 : upV V j v j = v := by simp [upV]
      have e2 : upC c j j = c j + 1 := by simp [upC]
      rw [e1, e2]
      exact hr.kept hS (.inr (by rw [hvb]; simpa using hgO))
    · have e1 : upV V i v j = V j := by simp [upV, e]
      have e2 : upC c i j = c j := by simp [upC, e]
      rw [e1, e2]
      refine ((h1.r j hj).kept hg ?_).kept hS (.inr (h.o j hj))
      cases hb : (V j).ownBlock with
      | none => exact .inl rfl
      | some x => exact .inr fun e' => h.d j i hj hi e x hb e'.symm
  · by_cases e : j = i
    · subst e; simp [upV, hvb, hgO]
    · simp only [upV, e, if_false]; exact h.o j hj
  · by_cases e : j = i
    · subst e
      have e1 : upV V j v j = v := by simp [upV]
      rw [e1, hvb] at hx
      obtain rfl := Option.some.inj hx
      have e2 : upV V j v l = V l := by have : ¬ l = j := fun h => hjl h.symm; simp [upV, this]
      rw [e2]
      exact fun h' => hne l hl (fun h => hjl h.symm) g h' rfl
    · have e1 : upV V i v j = V j := by simp [upV, e]
      rw [e1] at hx
      by_cases e' : l = i
      · subst e'
        have e2 : upV V l v l = v := by simp [upV]
        rw [e2, hvb]
        exact fun h' => hne j hj e x hx (Option.some.inj h').symm
      · have e2 : upV V i v l = V l := by simp [upV, e']
        rw [e2]
        exact h.d j l hj hl hjl x hx
  · have hbW : W.cell? ⟨b, o, none⟩ = some u := k.held hf.c
    have h2 : W'.cell? ⟨b, o, none⟩ = some u := (hg.cell_far ⟨b, o, none⟩ (World.block_lt_of_cell? W _ hbW) (fun e => hf.r i hi e.symm)).trans hbW
    exact (hS.cell_far ⟨b, o, none⟩ (World.block_lt_of_cell? W' _ h2) (by simpa using hf.n)).trans h2
  · by_cases e : j = i
    · subst e
      have e1 : upV V j v j = v := by simp [upV]
      rw [e1, hvb]
      intro h'
      obtain rfl := Option.some.inj h'
      rcases hat with e | e
      · exact hf.r j hi e
      · have := World.block_lt_of_cell? W _ (k.held hf.c)
        have h9 : g < W.heap.size := this
        omega
    · have e1 : upV V i v j = V j := by simp [upV, e]
      rw [e1]; exact hf.r j hj
/-- what is known behind the append and its store. -/
structure Stepped (Wb W0 w2 : World) (O N : Nat) (V : Nat → Value) (c : Nat → Nat) (F : Nat → Nat → Nat) (i : Nat) (v : Value) : Prop where
  out : OutIn Wb.heap.size w2 O N (upV V i v) (upC c i) F
  far : ∀ b o u, Far W0 O N V b o u → Far w2 O N (upV V i v) b o u
  kp : Kp Wb w2
/-- an append to one of them, in a drawn region. -/
theorem byte_step {ops : Array Oper} {o : Oper} {a : Act} {K : Act → World → Prop} {Q : Exit → Act → World → Prop} {E : Prop} (hgd : o.guard = none) (s x : Operand)
    (ho : o.op = .call { callee := .builtin .append, args := #[s, x], argTypes := #[23, 23] })
    {Wb W0 W : World} {O N : Nat} {V : Nat → Value} {c : Nat → Nat} {F : Nat → Nat → Nat} (h : OutIn Wb.heap.size W0 O N V c F) (hB : Kp Wb W0) (kp : Kp W0 W) {i : Nat} (hi : i < N) {v0 : Value} (hv0 : v0 = V i) (hs : a.eval s = v0) (b : Nat) (t : Nat) (ht : t = F i (c i)) (hx : a.eval x = .slice (some ⟨b, 0, none⟩) 1 1)
    (hc : W.cell? ⟨b, 0, none⟩ = some (.int .u8 (t : Int))) (hk : c i ≤ 65536)
    (cont : ∀ g n cap w', Stepped Wb W0 (w'.setCell ⟨O, i, none⟩ (.slice (some ⟨g, 0, none⟩) n cap)) O N V c F i (.slice (some ⟨g, 0, none⟩) n cap) → w'.cell? ⟨O, i, none⟩ = some v0 → w'.frozen? ⟨O, i, none⟩ = false → K (a.put o.dst (.slice (some ⟨g, 0, none⟩) n cap)) w') :
    if Region.wanted o (yielded ops a.tmps) = true then Oper.wp Tryz.prog o a W K Q else E := by
  subst hv0
  obtain ⟨i0, hi0, hz0, hz1, hz2⟩ := info_parts info_u8
  exact step_append_lies W hgd s x 23 ho Wb.heap.size 5 i0 (.int .u8 0) 1 1 Tryz.underlying23 hi0 hz0 hz1 hz2 rfl (by decide) (V i) (c i) (bRow (c i) (F i)) hs (kp.own (h.r i hi)) ⟨b, 0, none⟩ 1 1 [.int .u8 (t : Int)] hx rfl
    (fun j u hj => by
      match j, hj with
      | 0, hj => simp at hj; subst hj; simpa [Addr.add] using hc)
    (fun u hu => by simp at hu; subst hu; rfl) (by omega) (by unfold maxLen; omega) (by omega) (Nat.le_trans hB.size kp.size) W.heap.size rfl
    (fun g cap w' hr hg hat hl => by
      rw [ht, bRow_snoc] at hr
      obtain ⟨q1, q2, q3, q4⟩ := h.step kp hi rfl hr hg hat
      exact cont _ _ _ w' ⟨q1, q2, ((hB.trans kp).grown hg (own_lt (h.r i hi))).set O i h.hO.1 _⟩ q3 q4)


theorem gn_two (k : Nat) (lost : List Int) : gn (k + 2) lost = gn k lost ++ (if lsB lost k = true then [k] else []) ++ (if lsB lost (k + 1) = true then [k + 1] else []) := by
  cases h1 : lsB lost k <;> cases h2 : lsB lost (k + 1)
  · rw [gn_same h2, gn_same h1]; simp
  · rw [gn_snoc h2, gn_same h1]; simp
  · rw [gn_same h2, gn_snoc h1]; simp
  · rw [gn_snoc h2, gn_snoc h1]; simp
theorem gn_place {lost : List Int} {c : Nat} (h : lsB lost c = true) : ∀ k, c < k → (gn c lost).length < (gn k lost).length ∧ (gn k lost).getD (gn c lost).length 0 = c
  | 0, hk => absurd hk (by omega)
  | k + 1, hk => by
    by_cases e : c = k
    · subst e
      rw [gn_snoc h, List.length_append]
      refine ⟨by simp, ?_⟩
      rw [List.getD_eq_getElem?_getD, List.getElem?_append_right (Nat.le_refl _), Nat.sub_self]; rfl
    · obtain ⟨a, b⟩ := gn_place h k (by omega)
      cases hb : lsB lost k with
      | true =>
        rw [gn_snoc hb, List.length_append]
        refine ⟨by omega, ?_⟩
        rw [List.getD_eq_getElem?_getD, List.getElem?_append_left a, ← List.getD_eq_getElem?_getD, b]
      | false => rw [gn_same hb]; exact ⟨a, b⟩
theorem lkP_zero {n k : Nat} {Z : List ByteArray} (hZ : Sz n Z) (hl : k < Z.length) (h0 : Z.getD k noS = zs n) : lkP n k Z = parS n (Z.take k) := by
  apply bs_ext
  · rw [lkP_size hZ, parS_size n _ (hZ.take k)]
  · intro m hm
    rw [lkP_size hZ] at hm
    rw [lkP_at hZ hm, par_at n m hm _ (hZ.take k), xb_step hl, h0, zs_at, Nat.xor_zero]
/-- all columns, the lost ones brought back. -/
structure Whole (L R : List ByteArray) (k n : Nat) (lost : List Int) : Prop where
  len : R.length = k + 2
  sz : Sz n R
  same : ∀ i, i < k → lsB lost i = false → R.getD i noS = L.getD i noS
  p : R.getD k noS = if lsB lost k = true then parS n (R.take k) else L.getD k noS
  q : R.getD (k + 1) noS = if lsB lost (k + 1) = true then wgtS n (R.take k) else L.getD (k + 1) noS
theorem set_q {n k : Nat} {Y : List ByteArray} (hl : Y.length = k + 2) (hs : Sz n Y) : (mkQL n k Y).length = k + 2 ∧ Sz n (mkQL n k Y) ∧ (∀ c, c ≤ k → (mkQL n k Y).getD c noS = Y.getD c noS) ∧ (mkQL n k Y).take k = Y.take k ∧ (mkQL n k Y).getD (k + 1) noS = wgtS n ((mkQL n k Y).take k) := by
  have e : (mkQL n k Y).take k = Y.take k := take_out (by omega) _
  refine ⟨by unfold mkQL; rw [List.length_set, hl], hs.set _ (wgtS_size n _), fun c hc => getD_set_neL5 (by omega) _, e, ?_⟩
  rw [e]; exact getD_set_eqL5 (by omega) _
theorem set_p {n k : Nat} {Y : List ByteArray} (hl : Y.length = k + 2) (hs : Sz n Y) (h0 : Y.getD k noS = zs n) : (byPL n k Y k).length = k + 2 ∧ Sz n (byPL n k Y k) ∧ (∀ c, c ≠ k → (byPL n k Y k).getD c noS = Y.getD c noS) ∧ (byPL n k Y k).take k = Y.take k ∧ (byPL n k Y k).getD k noS = parS n ((byPL n k Y k).take k) := by
  have e : (byPL n k Y k).take k = Y.take k := take_out (Nat.le_refl k) _
  refine ⟨by unfold byPL; rw [List.length_set, hl], hs.set _ (lkP_size hs), fun c hc => getD_set_neL5 (fun h => hc h.symm) _, e, ?_⟩
  rw [e, ← lkP_zero hs (by omega) h0]; exact getD_set_eqL5 (by omega) _
theorem set_i {n k i : Nat} {Y : List ByteArray} {t : ByteArray} (hl : Y.length = k + 2) (hs : Sz n Y) (ht : t.size = n) (hi : i < k) : (Y.set i t).length = k + 2 ∧ Sz n (Y.set i t) ∧ (∀ c, c ≠ i → (Y.set i t).getD c noS = Y.getD c noS) ∧ (Y.set i t).getD i noS = t :=
  ⟨by rw [List.length_set, hl], hs.set i ht, fun c hc => getD_set_neL5 (fun h => hc h.symm) _, getD_set_eqL5 (by omega) _⟩
theorem ifF {b : Bool} (h : b = false) (x y : ByteArray) : y = if b = true then x else y := by rw [h]; rfl
theorem ifT {b : Bool} (h : b = true) (x y : ByteArray) : x = if b = true then x else y := by rw [h]; rfl
theorem fix_whole {L Z : List ByteArray} {k n : Nat} {lost : List Int} (hz : ZOk L Z k n lost) (hg : (gn (k + 2) lost).length ≤ 2) :
    Whole L (fixZ n k Z (gn (k + 2) lost)) k n lost ∧ ∀ m, m < n → k ≤ 30 → dtL (xb m (Z.take (k + 1))) (qb m (Z.take k) ^^^ bAt (Z.getD (k + 1) noS) m) (lsB lost k) (gn k lost) = (gn k lost).map fun i => bAt ((fixZ n k Z (gn (k + 2) lost)).getD i noS) m := by
  have hT := gn_two k lost
  have hR : ∀ x, x ∈ gn k lost → x < k := fun x hx => ((gn_mem k lost x).1 hx).1
  have hM : ∀ i, i < k → lsB lost i = false → i ∉ gn k lost := fun i _ hb hi => by
    have := ((gn_mem k lost i).1 hi).2
    unfold lsB at hb; simp [this] at hb
  have hW := gn_lt k lost
  obtain ⟨T, hTe⟩ : ∃ T, T = gn k lost := ⟨_, rfl⟩
  rw [← hTe] at hT hR hW hM ⊢
  have hl := hz.zlen
  have hs := hz.sz
  have sP := fun h => hz.same k (by omega) h
  have sQ := fun h => hz.same (k + 1) (by omega) h
  have zP := fun h => hz.zero k (by omega) h
  have pq : ∀ m, m < n → bAt (lkP n k Z) m = xb m (Z.take (k + 1)) ∧ bAt (lkQ n k Z) m = qb m (Z.take k) ^^^ bAt (Z.getD (k + 1) noS) m := fun m hm => ⟨lkP_at hs hm, lkQ_at hs (by omega) hm⟩
  have szP := lkP_size (k := k) hs
  have szQ := lkQ_size (k := k) hs (by omega)
  cases h1 : lsB lost k <;> cases h2 : lsB lost (k + 1) <;> rw [h1, h2] at hT <;> rcases T with _ | ⟨i, _ | ⟨j, _ | ⟨a, T⟩⟩⟩ <;> simp at hT <;> rw [hT] at hg <;> simp at hg <;> rw [hT]
  · exact ⟨⟨hl, hs, fun i hi hb => hz.same i (by omega) hb, (sP h1).trans (ifF h1 _ _), (sQ h2).trans (ifF h2 _ _)⟩, fun m hm _ => rfl⟩
  · have hi := hR i (by simp)
    have e : fixZ n k Z [i] = Z.set i (lkP n k Z) := by show (if i ≤ k then byPL n k Z i else mkQL n k Z) = _; rw [if_pos (by omega)]; rfl
    rw [e]
    obtain ⟨a1, a2, a3, a4⟩ := set_i hl hs szP hi
    refine ⟨⟨a1, a2, fun c hc hb => ?_, ?_, ?_⟩, fun m hm _ => ?_⟩
    · rw [a3 c (fun e => hM c hc hb (by simp [e])), hz.same c (by omega) hb]
    · rw [a3 k (by omega)]; exact (sP h1).trans (ifF h1 _ _)
    · rw [a3 (k + 1) (by omega)]; exact (sQ h2).trans (ifF h2 _ _)
    · show [xb m (Z.take (k + 1))] = [bAt ((Z.set i (lkP n k Z)).getD i noS) m]
      rw [a4, (pq m hm).1]
  · have hj := hR j (by simp)
    have hij : i < j := by simpa using hW
    have e : fixZ n k Z [i, j] = byBL n k Z i j := by show (if j = k + 1 then mkQL n k (byPL n k Z i) else if j = k then byPL n k (byQL n k Z i) k else byBL n k Z i j) = _; rw [if_neg (by omega), if_neg (by omega)]
    rw [e]
    have sF : (firstS n k Z i j).size = n := by unfold firstS; rw [dvS_size, foldS_size, szP]
    obtain ⟨a1, a2, a3, a4⟩ := set_i hl hs sF (show i < k by omega)
    obtain ⟨b1, b2, b3, b4⟩ := set_i a1 a2 (show (foldS (lkP n k Z) 1 (firstS n k Z i j)).size = n by rw [foldS_size, sF]) hj
    have ee : byBL n k Z i j = (Z.set i (firstS n k Z i j)).set j (foldS (lkP n k Z) 1 (firstS n k Z i j)) := rfl
    rw [ee]
    refine ⟨⟨b1, b2, fun c hc hb => ?_, ?_, ?_⟩, fun m hm hk => ?_⟩
    · rw [b3 c (fun e => hM c hc hb (by simp [e])), a3 c (fun e => hM c hc hb (by simp [e])), hz.same c (by omega) hb]
    · rw [b3 k (by omega), a3 k (by omega)]; exact (sP h1).trans (ifF h1 _ _)
    · rw [b3 (k + 1) (by omega), a3 (k + 1) (by omega)]; exact (sQ h2).trans (ifF h2 _ _)
    · have f1 : bAt (firstS n k Z i j) m = ml (dv 1 (pw i ^^^ pw j)) ((qb m (Z.take k) ^^^ bAt (Z.getD (k + 1) noS) m) ^^^ ml (pw j) (xb m (Z.take (k + 1)))) := by
        unfold firstS
        rw [dvS_at _ _ m (by rw [foldS_size, szP]; exact hm), foldS_at _ _ (pw_lt j) _ m (by rw [szP]; exact hm), (pq m hm).1, (pq m hm).2]
      have f2 : bAt (foldS (lkP n k Z) 1 (firstS n k Z i j)) m = xb m (Z.take (k + 1)) ^^^ bAt (firstS n k Z i j) m := by
        rw [foldS_at _ 1 (by omega) _ m (by rw [sF]; exact hm), ml_one_left _ (bAt_lt _ _), (pq m hm).1]
      show [_, _] = [bAt (((Z.set i (firstS n k Z i j)).set j (foldS (lkP n k Z) 1 (firstS n k Z i j))).getD i noS) m, bAt (((Z.set i (firstS n k Z i j)).set j (foldS (lkP n k Z) 1 (firstS n k Z i j))).getD j noS) m]
      rw [b4, b3 i (by omega), a4, f2, f1]
  -- Q
  · have e : fixZ n k Z [k + 1] = mkQL n k Z := by show (if k + 1 ≤ k then byPL n k Z (k + 1) else mkQL n k Z) = _; rw [if_neg (by omega)]
    rw [e]
    obtain ⟨a1, a2, a3, a4, a5⟩ := set_q hl hs
    exact ⟨⟨a1, a2, fun c hc hb => by rw [a3 c (by omega), hz.same c (by omega) hb], by rw [a3 k (by omega)]; exact (sP h1).trans (ifF h1 _ _), a5.trans (ifT h2 _ _)⟩, fun m hm _ => rfl⟩
  · have hi := hR i (by simp)
    have e : fixZ n k Z [i, k + 1] = mkQL n k (Z.set i (lkP n k Z)) := by show (if k + 1 = k + 1 then mkQL n k (byPL n k Z i) else if k + 1 = k then byPL n k (byQL n k Z i) k else byBL n k Z i (k + 1)) = _; rw [if_pos rfl]; rfl
    rw [e]
    obtain ⟨a1, a2, a3, a4⟩ := set_i hl hs szP hi
    obtain ⟨b1, b2, b3, b4, b5⟩ := set_q a1 a2
    refine ⟨⟨b1, b2, fun c hc hb => ?_, ?_, b5.trans (ifT h2 _ _)⟩, fun m hm _ => ?_⟩
    · rw [b3 c (by omega), a3 c (fun e => hM c hc hb (by simp [e])), hz.same c (by omega) hb]
    · rw [b3 k (by omega), a3 k (by omega)]; exact (sP h1).trans (ifF h1 _ _)
    · show [xb m (Z.take (k + 1))] = [bAt ((mkQL n k (Z.set i (lkP n k Z))).getD i noS) m]
      rw [b3 i (by omega), a4, (pq m hm).1]
  -- P
  · have e : fixZ n k Z [k] = byPL n k Z k := by show (if k ≤ k then byPL n k Z k else mkQL n k Z) = _; rw [if_pos (by omega)]
    rw [e]
    obtain ⟨a1, a2, a3, a4, a5⟩ := set_p hl hs (zP h1)
    exact ⟨⟨a1, a2, fun c hc hb => by rw [a3 c (by omega), hz.same c (by omega) hb], a5.trans (ifT h1 _ _), by rw [a3 (k + 1) (by omega)]; exact (sQ h2).trans (ifF h2 _ _)⟩, fun m hm _ => rfl⟩
  · have hi := hR i (by simp)
    have e : fixZ n k Z [i, k] = byPL n k (Z.set i (dvS (pw i) (lkQ n k Z))) k := by show (if k = k + 1 then mkQL n k (byPL n k Z i) else if k = k then byPL n k (byQL n k Z i) k else byBL n k Z i k) = _; rw [if_neg (by omega), if_pos rfl]; rfl
    rw [e]
    obtain ⟨a1, a2, a3, a4⟩ := set_i hl hs (show (dvS (pw i) (lkQ n k Z)).size = n by rw [dvS_size, szQ]) hi
    obtain ⟨b1, b2, b3, b4, b5⟩ := set_p a1 a2 (by rw [a3 k (by omega), zP h1])
    refine ⟨⟨b1, b2, fun c hc hb => ?_, b5.trans (ifT h1 _ _), ?_⟩, fun m hm _ => ?_⟩
    · rw [b3 c (by omega), a3 c (fun e => hM c hc hb (by simp [e])), hz.same c (by omega) hb]
    · rw [b3 (k + 1) (by omega), a3 (k + 1) (by omega)]; exact (sQ h2).trans (ifF h2 _ _)
    · show [dv (qb m (Z.take k) ^^^ bAt (Z.getD (k + 1) noS) m) (pw i)] = [bAt ((byPL n k (Z.set i (dvS (pw i) (lkQ n k Z))) k).getD i noS) m]
      rw [b3 i (by omega), a4, dvS_at _ _ m (by rw [szQ]; exact hm), (pq m hm).2, dv_as _ _ (by rw [← (pq m hm).2]; exact bAt_lt _ _) (pw_lt i) (pw_ne0 i)]
  -- P and Q
  · have e : fixZ n k Z [k, k + 1] = mkQL n k (byPL n k Z k) := by show (if k + 1 = k + 1 then mkQL n k (byPL n k Z k) else if k + 1 = k then byPL n k (byQL n k Z k) k else byBL n k Z k (k + 1)) = _; rw [if_pos rfl]
    rw [e]
    obtain ⟨a1, a2, a3, a4, a5⟩ := set_p hl hs (zP h1)
    obtain ⟨b1, b2, b3, b4, b5⟩ := set_q a1 a2
    exact ⟨⟨b1, b2, fun c hc hb => by rw [b3 c (by omega), a3 c (by omega), hz.same c (by omega) hb], by rw [b3 k (by omega), a5, b4]; exact ifT h1 _ _, b5.trans (ifT h2 _ _)⟩, fun m hm _ => rfl⟩

theorem ls_gn {N i : Nat} (h : i < N) (lost : List Int) : i ∈ gn N lost ↔ lsB lost i = true := by
  rw [gn_mem]; unfold lsB; simp [h]
theorem z_ok {L : List ByteArray} {lost : List Int} {k : Nat} (hl : L.length = k + 2) (hE : fitE (keptL L (k + 2) (gn (k + 2) lost)) = 0) (n : Nat) (hn : n = ((keptL L (k + 2) (gn (k + 2) lost)).getD 0 noS).size) : ZOk L (blkL5 n L (gn (k + 2) lost)) k n lost := by
  have hs : Sz n (blkL5 n L (gn (k + 2) lost)) := by
    have := blk_sz (L := L) (g := gn (k + 2) lost) (by rw [hl]; exact hE)
    unfold lnS at this
    rw [hl, ← hn] at this
    exact this
  refine ⟨hl, by rw [blk_length, hl], hs, fun i hi hb => ?_, fun i hi hb => ?_⟩
  · rw [blk_at _ _ _ i (by omega), if_neg (fun h => by rw [(ls_gn hi lost).1 h] at hb; cases hb)]
  · rw [blk_at _ _ _ i (by omega), if_pos ((ls_gn hi lost).2 hb)]

end Go.Proofs.YtonooelffokfkaaGreatDoor

namespace Go.Proofs.YtonooelffokfkaaGreatDoor
open Go.RowKit Plain Go.BigFrame
set_option linter.unusedVariables false

theorem info_bytes : (Tryz.prog.info? 23).map (fun i => (i.zero, i.size, i.bytes)) = some (some (.slice none 0 0), 1, 24) := by kernel_rfl
theorem rfix_bad (w : World) (cv lv : Value) (L : List ByteArray) (lost : List Int) (hL : StrsIn w cv L) (hI : IntsIn w lv lost) (hlo : lost.length * 8 ≤ 140737488355328) (hE : srE ((L.length : Int) - 2) lost ≠ 0) :
    Calls Tryz.prog 67 #[cv, lv] w fun e w' => e = .returned (.tuple #[.slice none 0 0, .int .i64 (srE ((L.length : Int) - 2) lost)]) ∧ Kp w w' := by
  obtain ⟨a, cap, rfl, h1, h2⟩ := hL.slice
  have hS := rlost_any ((L.length : Int) - 2) lv lost hlo w hI
  obtain ⟨E, hE'⟩ : ∃ E, E = srE ((L.length : Int) - 2) lost := ⟨_, rfl⟩
  rw [← hE'] at hS hE ⊢
  unfold maxLen at h2
  have hEn : (E == 0) = false := by rw [beq_eq_false_iff_ne]; exact hE
  obtain ⟨n, hn⟩ : ∃ n, n = L.length := ⟨_, rfl⟩
  rw [← hn] at hS h1 ⊢
  clear hE' hL hI hn
  go_enter Tryz.func67, Tryz.ntmps67
  go_wp2_with fail
  refine hS.mono ?_; rintro e w1 ⟨u, m, rfl, _, k1⟩
  go_wp2
  go_ret2
  exact ⟨rfl, k1⟩

theorem bs_back {s : ByteArray} {n : Nat} (h : s.size = n) : bs n (fun i => bAt s (i : Int)) = s := by subst h; exact bs_self s
def rowC (c m : Nat) : Nat → Nat := fun i => if i < c then m + 1 else m
theorem rowC_up (c m : Nat) : upC (rowC c m) c = rowC (c + 1) m := by
  funext i
  unfold upC rowC
  by_cases h : i = c
  · subst h; rw [if_pos rfl, if_neg (by omega), if_pos (by omega)]
  · rw [if_neg h]
    by_cases h2 : i < c
    · rw [if_pos h2, if_pos (by omega)]
    · rw [if_neg h2, if_neg (by omega)]

set_option maxRecDepth 100000 in
set_option maxHeartbeats 16000000 in
theorem rfix_good (w : World) (k : Nat) (cv lv : Value) (L : List ByteArray) (lost : List Int) (hL : StrsIn w cv L) (hs : ∀ i, i < L.length → (L.getD i noS).size ≤ maxLen) (hI : IntsIn w lv lost) (hlo : lost.length * 8 ≤ 140737488355328) (hl : L.length = k + 2) (hE : srE (k : Int) lost = 0) :
    Calls Tryz.prog 67 #[cv, lv] w fun e w' => ∃ v, e = .returned (.tuple #[v, .int .i64 (fxE L lost)]) ∧ StrsIn w' v (fxL L lost) ∧ Kp w w' ∧ ∀ q, v.ownBlock = some q → w.heap.size ≤ q := by
  obtain ⟨i0, hi, hz0, hz1, hz2⟩ := info_parts info_str5
  obtain ⟨q1, q2, q3, q4⟩ := sr_zero hE
  have hk1 : 2 ≤ k := by omega
  have hk2 : k ≤ 30 := by omega
  have hgl : (gn (k + 2) lost).length ≤ 2 := by
    have : (dst lost).length = (gn (k + 2) lost).length := by rw [dst_gn (k + 2) lost (fun x hx => by have := in_all q3 x hx; omega), List.length_map]
    omega
  have hE2 : srE ((L.length : Int) - 2) lost = 0 := by rw [hl, show ((k + 2 : Nat) : Int) - 2 = (k : Int) by omega]; exact hE
  have eE : fxE L lost = fitE (keptL L (k + 2) (gn (k + 2) lost)) := by rw [fx_un hE2]; unfold gnL; rw [hl]
  have eL : fxL L lost = if fxE L lost = 0 then fixZ ((keptL L (k + 2) (gn (k + 2) lost)).getD 0 noS).size k (blkL5 ((keptL L (k + 2) (gn (k + 2) lost)).getD 0 noS).size L (gn (k + 2) lost)) (gn (k + 2) lost) else [] := by
    unfold fxL gnL lnS; rw [hl]; rfl
  have hS := rlost_any (k : Int) lv lost hlo w hI
  rw [hE] at hS
  obtain ⟨ca, cb, co, cc, rfl, c1, c2, c3, c4⟩ := hL.parts
  obtain rfl := c3 (by omega)
  rw [hl] at c1 c4 ⊢
  unfold maxLen at c2
  have hgc : ∀ i, i < k + 2 → (gn (k + 2) lost).contains i = lsB lost i := fun i hi => by
    rw [Bool.eq_iff_iff, ← ls_gn hi lost]; simp
  obtain ⟨g, hg⟩ : ∃ g, g = gn (k + 2) lost := ⟨_, rfl⟩
  obtain ⟨E, hEe⟩ : ∃ E, E = fxE L lost := ⟨_, rfl⟩
  obtain ⟨R, hRe⟩ : ∃ R, R = fxL L lost := ⟨_, rfl⟩
  rw [← hEe] at eE eL ⊢
  rw [← hRe] at eL ⊢
  rw [← hg] at eE eL hgl hgc
  obtain ⟨M, hM⟩ : ∃ M, M = keptL L (k + 2) g := ⟨_, rfl⟩
  rw [← hM] at eE eL
  have HG : Hid (g = gn (k + 2) lost) := hg
  have HM : Hid (M = keptL L (k + 2) g) := hM
  have HE : Hid (E = fitE M) := eE
  have HRE : Hid (R = if E = 0 then fixZ (M.getD 0 noS).size k (blkL5 (M.getD 0 noS).size L g) g else []) := eL
  have HC : Hid (∀ i, i < k + 2 → w.cell? ⟨cb, co + i, none⟩ = some (.string (L.getD i noS))) := c4
  have HGC : Hid (∀ i, i < k + 2 → g.contains i = lsB lost i) := hgc
  have HS : Hid (∀ i, i < L.length → (L.getD i noS).size ≤ maxLen) := hs
  have HL : Hid (L.length = k + 2) := hl
  clear hg hM eE eL c4 hgc hEe hRe c3 hL hI hE hE2 q1 q2 q3 q4 hs hl
  go_enter Tryz.func67, Tryz.ntmps67
  go_wp2_with fail
  refine hS.mono ?_; rintro e w1 ⟨u, nl, rfl, hu, k1⟩
  obtain ⟨G, rfl, hG1, hG2, hB, rfl⟩ := hu (by trivial)
  rw [show ((k : Nat) : Int).toNat = k by omega] at hB ⊢
  have HB : Hid (∀ i, i < k + 2 → w1.cell? ⟨G, i, none⟩ = some (.bool (lsB lost i))) := hB.c
  clear hS hu hB
  go_wp2
  go_loopw [10, 11] (fun v i wr => ∃ m : Nat, m ≤ k + 2 ∧ i = .int .i64 m ∧ wr.ownsRow w1.heap.size 9 1 v (keptL L m g).length ((keptL L m g).map Value.string) ∧ Kp w1 wr) (fun _ i _ => k + 2 - (intOf i).toNat)
  case atStart => exact ⟨0, by omega, rfl, World.ownsRow_nil _ _ _ _, Kp.refl w1⟩
  case round =>
    obtain ⟨m, hm, rfl, hown, hK⟩ := hrel
    by_cases hlt : m < k + 2
    · have hcm := (k1.trans hK).held (HC.out m hlt)
      have hbm := hK.held (HB.out m hlt)
      obtain ⟨s, hse⟩ : ∃ s, s = L.getD m noS := ⟨_, rfl⟩
      rw [← hse] at hcm
      have HSE : Hid (s = L.getD m noS) := hse
      have hle := keptL_le L m g
      have hz := hK.size
      have hgm := HGC.out m hlt
      clear hse
      by_cases hb : lsB lost m = true
      · have HO : Hid (keptL L (m + 1) g = keptL L m g) := keptL_out (by rw [hgm, hb])
        rw [hb] at hbm
        clear hb hgm
        go_wp2
        go_roundw
        case rel => exact ⟨m + 1, by omega, by go_num, by rw [HO.out]; exact hown, hK⟩
        case measure => simp [intOf] <;> omega
      · have hb' : lsB lost m = false := by simpa using hb
        have HO : Hid (keptL L (m + 1) g = keptL L m g ++ [L.getD m noS]) := keptL_in (by rw [hgm, hb'])
        rw [hb'] at hbm
        clear hb hb' hgm
        go_wp2_with (at_builtin; refine wpList_append_own _ rfl _ _ 67 rfl w1.heap.size 9 i0 (.string ByteArray.empty) 1 16 Tryz.underlying67 hi hz0 hz1 hz2 rfl (by decide) _ _ _ rfl (hown.alloc _) ⟨wr.heap.size, 0, none⟩ 1 1 [.string s] rfl rfl ?c1 ?c2 ?c3 ?c4 ?c5 ?_)
        case c1 =>
          intro j u hj
          match j, hj with
          | 0, hj => simp at hj; subst hj; simp [Addr.add]
        case c2 => intro u hu; simp at hu; subst hu; rfl
        case c3 => unfold maxLen; omega
        case c4 => omega
        case c5 => simp; omega
        · intro v' w3 hown3 hgrow3 _
          have hK3 : Kp w1 w3 := (hK.alloc _).grown hgrow3 (own_lt hown)
          clear hgrow3 hown hK
          go_wp2
          go_roundw
          case rel => exact ⟨m + 1, by omega, by go_num, by rw [HO.out]; simpa [HSE.out] using hown3, hK3⟩
          case measure => simp [intOf] <;> omega
    · obtain rfl : m = k + 2 := by omega
      have hkz : ∀ i, i < (keptL L (k + 2) g).length → ((keptL L (k + 2) g).getD i noS).size ≤ maxLen := fun i hi => by
        obtain ⟨j, hj, _, e⟩ := keptL_mem (mem_of_at _ i hi)
        rw [e]; exact HS.out j (by rw [HL.out]; exact hj)
      have hpos : 0 < (keptL L (k + 2) g).length := keptL_pos hgl (by omega)
      have hA := fit_any _ _ hkz wr (own_strs hown rfl)
      rw [← HM.out] at hA hown hpos
      rcases hown.2 with ⟨rfl, h0⟩ | ⟨Kb, kc, cur, rfl, hKb, hcur, r1, r2, r3, r4⟩
      · omega
      have hk0 : wr.cell? ⟨Kb, 0, none⟩ = some (.string (M.getD 0 noS)) := own_at hown rfl 0 hpos
      have hfit := fit_is M
      rw [← HE.out] at hA hfit
      have hr := fit_range M
      rw [← HE.out] at hr
      obtain ⟨s0, hs0⟩ : ∃ s, s = M.getD 0 noS := ⟨_, rfl⟩
      have HS0 : Hid (s0 = M.getD 0 noS) := hs0
      have h65 : E = 0 → s0.size ≤ 65536 := fun h0 => by rw [hs0]; exact (hfit h0).1 0 hpos
      rw [← hs0] at hk0
      obtain ⟨ml, hml⟩ : ∃ ml, ml = M.length := ⟨_, rfl⟩
      rw [← hml] at hA hpos hown r1 ⊢
      clear hfit hml r3 r4 hcur hown hkz hs0
      go_wp2_with fail
      refine hA.mono ?_; rintro e w2 ⟨rfl, k2⟩
      have K2 := hK.trans k2
      have hk2' := k2.held hk0
      clear hA k2 hk0 hK
      by_cases h0 : E = 0
      · have hx := h65 h0
        subst h0
        obtain ⟨n, hn⟩ : ∃ n, n = s0.size := ⟨_, rfl⟩
        have hsn : (M.getD 0 noS).size = n := by rw [hn, HS0.out]
        have hR : R = fixZ n k (blkL5 n L g) g := by rw [HRE.out, if_pos rfl, hsn]
        have hZ : ZOk L (blkL5 n L g) k n lost := by
          rw [HG.out]
          exact z_ok HL.out (by rw [← HG.out, ← HM.out]; exact HE.out.symm) n (by rw [← HG.out, ← HM.out]; exact hsn.symm)
        have hW := fix_whole hZ (by rw [← HG.out]; exact hgl)
        rw [← HG.out, ← hR] at hW
        obtain ⟨Z, hZe⟩ : ∃ Z, Z = blkL5 n L g := ⟨_, rfl⟩
        rw [← hZe] at hZ hW
        have HZ : Hid (ZOk L Z k n lost) := hZ
        have HW : Hid (Whole L R k n lost) := hW.1
        have HD : Hid (∀ m, m < n → k ≤ 30 → dtL (xb m (Z.take (k + 1))) (qb m (Z.take k) ^^^ bAt (Z.getD (k + 1) noS) m) (lsB lost k) (gn k lost) = (gn k lost).map fun i => bAt (R.getD i noS) m) := hW.2
        have hgk : (gn k lost).length ≤ 2 := by
          have h9 := gn_two k lost
          have h8 := hgl
          rw [HG.out, h9, List.length_append, List.length_append] at h8
          omega
        have HCc : Hid (∀ i, i < k + 2 → w2.cell? ⟨cb, co + i, none⟩ = some (.string (L.getD i noS))) := fun i hi => (k1.trans K2).held (HC.out i hi)
        have HBb : Hid (∀ i, i < k + 2 → w2.cell? ⟨G, i, none⟩ = some (.bool (lsB lost i))) := fun i hi => K2.held (HB.out i hi)
        have hmk : ∀ W : World, (Instr.makeSlice 233 (.int .i64 ((k : Int) + 2)) (.int .i64 ((k : Int) + 2))).run Tryz.prog W = .ok (.slice (some ⟨W.heap.size, 0, none⟩) (k + 2) (k + 2)) (W.alloc (.cells (madeCells #[.slice none 0 0] (k + 2)) 23)) := fun W =>
          run_make_row' (P := Tryz.prog) 233 23 (.slice none 0 0) 24 Tryz.underlying233 info_bytes rfl .i64 .i64 (k + 2) (by omega) (by omega) W
        have hm0 := hmk w2
        have hO0 := OutIn.new (base := w2.heap.size) (w := w2) (Nat.le_refl _) k (k + 2) (by omega) 23 (fun i j => bAt (R.getD i noS) j)
        have KW : Kp w2 (w2.alloc (.cells (madeCells #[.slice none 0 0] (k + 2)) 23)) := (Kp.refl w2).alloc _
        obtain ⟨w3, hw3⟩ : ∃ w3, w3 = w2.alloc (.cells (madeCells #[.slice none 0 0] (k + 2)) 23) := ⟨_, rfl⟩
        rw [← hw3] at hm0 hO0 KW
        obtain ⟨O, hOe⟩ : ∃ O, O = w2.heap.size := ⟨_, rfl⟩
        rw [← hOe] at hm0
        have hO1 : OutIn w2.heap.size w3 O k (fun _ => .slice none 0 0) (fun _ => 0) (fun i j => bAt (R.getD i noS) j) := by rw [hOe]; exact hO0
        have K02 := k1.trans K2
        clear hmk hw3 hsn hR hZ hW hZe HG HM HE HRE HC HB HGC HS HS0 hO0 h65 hr hOe
        go_wp2
        have hn65 : n ≤ 65536 := by rw [hn]; exact hx
        have HN : Hid (n = s0.size) := hn
        clear hn
        go_loopw [13] (fun iv wr => ∃ m V, m ≤ n ∧ iv = .int .i64 (m : Nat) ∧ OutIn w2.heap.size wr O k V (fun _ => m) (fun i j => bAt (R.getD i noS) j) ∧ Kp w2 wr) (fun iv _ => n - (intOf iv).toNat)
        case atStart => exact ⟨0, _, by omega, rfl, hO1, KW⟩
        case round =>
          obtain ⟨m, V, hm, rfl, hO, hK⟩ := hrel
          have hk0 := hK.held hk2'
          clear hm0 hO1 KW
          by_cases hlt : m < n
          · have hlt' : m < s0.size := by rw [← HN.out]; exact hlt
            have hT := HD.out m hlt (by omega)
            have hDt := rdata_any HZ.out hk1 hk2 cb co cc G (k + 2) m c1 c2 (Nat.le_refl _) (by omega) hn65 hlt hgk wr (fun i hi => hK.held (HCc.out i hi)) (fun i hi => hK.held (HBb.out i hi))
            rw [hT] at hDt
            clear hT
            obtain ⟨T, hTe⟩ : ∃ T, T = (gn k lost).map fun i => bAt (R.getD i noS) m := ⟨_, rfl⟩
            rw [← hTe] at hDt
            have HT : Hid (T = (gn k lost).map fun i => bAt (R.getD i noS) m) := hTe
            clear hTe
            go_wp2_with fail
            refine hDt.mono ?_; rintro e w4 ⟨v, rfl, hdat, k4⟩
            obtain ⟨a, D, cap, rfl, t1, t2, t3, t4, t5⟩ := hdat.v
            have hO4 := hO.kp k4
            have K4 := hK.trans k4
            have hF4 : ∀ j, j < T.length → Far w4 O k V D j (.int .u8 (T.getD j 0 : Nat)) := fun j hj => ⟨t5 j hj, by have := hO.hO.2; omega, fun i hi e => by have := ((hO.r i hi).lt D e).2; omega⟩
            have HTL : Hid (T.length = (gn k lost).length) := by show _ = _; rw [HT.out, List.length_map]
            have ht2 : T.length ≤ 2 := by omega
            clear hdat t5 hDt hO hK k4 hk0
            go_wp2
            go_loopw [15, 16] (fun nv iv wr => ∃ c V, c ≤ k ∧ iv = .int .i64 (c : Nat) ∧ nv = .int .i64 ((gn c lost).length : Nat) ∧ OutIn w2.heap.size wr O k V (rowC c m) (fun i j => bAt (R.getD i noS) j) ∧ Kp w2 wr ∧ ∀ j, j < T.length → Far wr O k V D j (.int .u8 (T.getD j 0 : Nat))) (fun _ iv _ => k - (intOf iv).toNat)
            case atStart => exact ⟨0, V, by omega, rfl, rfl, hO4.congr (fun i _ => by unfold rowC; rw [if_neg (by omega)]), K4, hF4⟩
            case round =>
              obtain ⟨c, V', hc, rfl, rfl, hO, hK, hF⟩ := hrel
              clear hO4 K4 hF4
              by_cases hltc : c < k
              · have hb4 := hK.held (HBb.out c (by omega))
                have hvc := hO.cl c hltc
                have hrc : rowC c m c = m := by unfold rowC; rw [if_neg (by omega)]
                obtain ⟨vc, hve⟩ : ∃ v, v = V' c := ⟨_, rfl⟩
                rw [← hve] at hvc
                have hgle := gn_le c lost
                by_cases hb : lsB lost c = true
                · obtain ⟨g1, g2⟩ := gn_place hb k hltc
                  have hgs := gn_in hb
                  rw [hb] at hb4
                  obtain ⟨nn, hnn⟩ : ∃ nn, nn = (gn c lost).length := ⟨_, rfl⟩
                  have hlt2 : nn < T.length := by rw [HTL.out, hnn]; exact g1
                  have hgt : T.getD nn 0 = bAt (R.getD c noS) m := by
                    rw [HT.out, List.getD_eq_getElem?_getD, List.getElem?_map, List.getElem?_eq_getElem (by rw [hnn]; exact g1)]
                    rw [List.getD_eq_getElem?_getD, ← hnn, List.getElem?_eq_getElem (by rw [hnn]; exact g1)] at g2
                    simp at g2 ⊢
                    rw [g2]
                  have hcd := (hF nn hlt2).c
                  obtain ⟨t, hte⟩ : ∃ t, t = T.getD nn 0 := ⟨_, rfl⟩
                  rw [← hte] at hcd hgt
                  have hbt : t = (fun i j => bAt (R.getD i noS) ((j : Nat) : Int)) c (rowC c m c) := by rw [hrc]; exact hgt
                  obtain rfl := t4 (by omega)
                  have HGS : Hid ((gn (c + 1) lost).length = nn + 1) := by show _ = _; rw [hgs, ← hnn]
                  rw [← hnn] at hgle ⊢
                  have hrc2 : rowC c m c ≤ 65536 := by omega
                  have hi1 : (c : Int) < (k : Int) + 2 := by omega
                  have hi2 : (nn : Int) < (T.length : Int) := by omega
                  have hOw : O < wr.heap.size := hO.hO.2
                  have HO : Hid (OutIn w2.heap.size wr O k V' (rowC c m) (fun i j => bAt (R.getD i noS) j)) := hO
                  have HK : Hid (Kp w2 wr) := hK
                  have HF : Hid (∀ j, j < T.length → Far wr O k V' D j (.int .u8 (T.getD j 0 : Nat))) := hF
                  have HV : Hid (vc = V' c) := hve
                  have HBT : Hid (t = (fun i j => bAt (R.getD i noS) ((j : Nat) : Int)) c (rowC c m c)) := hbt
                  clear hb g1 g2 hgs hnn hgt hte hbt hO hK hF hve hrc t4
                  go_upto_region 24 with fail
                  go_region_law (refine byte_step (by rfl) (.tmp 87) (.tmp 92) (by rfl) HO.out HK.out (by first | exact (Kp.refl _).drew | exact ((Kp.refl _).alloc _).drew | exact ((Kp.refl _).drew).alloc _) hltc HV.out (by rfl) _ t HBT.out (by rfl) (by simp) hrc2 ?_; intro g5 n5 cap5 w5 hst hcl hfz)
                  all_goals (
                    go_wp2
                    go_roundw
                    (case rel => exact ⟨c + 1, _, by omega, by go_num, by rw [HGS.out]; go_num, by rw [← rowC_up]; exact hst.out, hst.kp, fun j hj => hst.far _ _ _ (HF.out j hj)⟩)
                    (case measure => simp [intOf] <;> omega))
                · have hb' : lsB lost c = false := by simpa using hb
                  have hgs := gn_out hb'
                  have hcc := hK.held (HCc.out c (by omega))
                  have hsame := HW.out.same c hltc hb'
                  have hsz : (R.getD c noS).size = n := HW.out.sz.at c (by rw [HW.out.len]; omega)
                  rw [hsame] at hsz
                  rw [hb'] at hb4
                  obtain ⟨nn, hnn⟩ : ∃ nn, nn = (gn c lost).length := ⟨_, rfl⟩
                  obtain ⟨s, hse⟩ : ∃ s, s = L.getD c noS := ⟨_, rfl⟩
                  rw [← hse] at hcc hsz hsame
                  have hms : m < s.size := by omega
                  obtain ⟨t, hte⟩ : ∃ t, (s[m]'hms).toNat = t := ⟨_, rfl⟩
                  have hbt : t = (fun i j => bAt (R.getD i noS) ((j : Nat) : Int)) c (rowC c m c) := by
                    rw [hrc]
                    show t = bAt (R.getD c noS) m
                    rw [hsame, bAt_nat s m hms]; exact hte.symm
                  have ht256 : t < 256 := by rw [← hte]; exact UInt8.toNat_lt _
                  have HGS : Hid ((gn (c + 1) lost).length = nn) := by show _ = _; rw [hgs, ← hnn]
                  rw [← hnn] at hgle ⊢
                  have hrc2 : rowC c m c ≤ 65536 := by omega
                  have hi1 : (c : Int) < (k : Int) + 2 := by omega
                  have hi2 : (m : Int) < (s.size : Int) := by omega
                  have hOw : O < wr.heap.size := hO.hO.2
                  have HO : Hid (OutIn w2.heap.size wr O k V' (rowC c m) (fun i j => bAt (R.getD i noS) j)) := hO
                  have HK : Hid (Kp w2 wr) := hK
                  have HF : Hid (∀ j, j < T.length → Far wr O k V' D j (.int .u8 (T.getD j 0 : Nat))) := hF
                  have HV : Hid (vc = V' c) := hve
                  have HBT : Hid (t = (fun i j => bAt (R.getD i noS) ((j : Nat) : Int)) c (rowC c m c)) := hbt
                  clear hb hb' hgs hnn hbt hO hK hF hve hrc t4 hse hsame
                  go_upto_region 26 with fail
                  go_region_law (refine byte_step (by rfl) (.tmp 102) (.tmp 109) (by rfl) HO.out HK.out (by first | exact (Kp.refl _).drew | exact ((Kp.refl _).alloc _).drew | exact ((Kp.refl _).drew).alloc _) hltc HV.out (by rfl) _ t HBT.out (by rfl) (by simp) hrc2 ?_; intro g5 n5 cap5 w5 hst hcl hfz)
                  all_goals (
                    go_wp2
                    go_roundw
                    (case rel => exact ⟨c + 1, _, by omega, by go_num, by rw [HGS.out], by rw [← rowC_up]; exact hst.out, hst.kp, fun j hj => hst.far _ _ _ (HF.out j hj)⟩)
                    (case measure => simp [intOf] <;> omega))
              · obtain rfl : c = k := by omega
                go_wp2
                go_roundw
                case rel => exact ⟨m + 1, V', by omega, by go_num, hO.congr (fun i hi => by unfold rowC; rw [if_pos hi]), hK⟩
                case measure => simp [intOf] <;> omega
          · have hmn : m = n := by omega
            obtain ⟨w6, hw6⟩ : ∃ w', w' = wr := ⟨_, rfl⟩
            rw [← hw6] at hO hK hk0 ⊢
            clear hw6
            have hnm : ¬ m < s0.size := by rw [← HN.out]; exact hlt
            have HO : Hid (OutIn w2.heap.size w6 O k V (fun _ => n) (fun i j => bAt (R.getD i noS) j)) := by rw [← hmn]; exact hO
            have hz26 := hK.size
            clear hO HD HZ hmn hlt
            go_wp2
            go_loopw [17, 18] (fun v iv wr => ∃ c, c ≤ k ∧ iv = .int .i64 (c : Nat) ∧ wr.ownsRow w6.heap.size 9 1 v c ((R.take c).map Value.string) ∧ Kp w6 wr) (fun _ iv _ => k - (intOf iv).toNat)
            case atStart => exact ⟨0, by omega, rfl, World.ownsRow_nil _ _ _ _, Kp.refl w6⟩
            case round =>
              obtain ⟨c, hc, rfl, hown, hK4⟩ := hrel
              have hz4 := hK4.size
              by_cases hltc : c < k
              · have hO4 := HO.out.kp hK4
                have hvc := hO4.cl c hltc
                have hcv := convert_own_any (P := Tryz.prog) 23 9 Tryz.underlying23 Tryz.underlying5 Tryz.underlying9 (hO4.r c hltc)
                rw [bs_back (HW.out.sz.at c (by rw [HW.out.len]; omega))] at hcv
                have HT : Hid (R.take (c + 1) = R.take c ++ [R.getD c noS]) := take_snoc (by rw [HW.out.len]; omega)
                obtain ⟨s, hse⟩ : ∃ s, s = R.getD c noS := ⟨_, rfl⟩
                rw [← hse] at hcv HT
                obtain ⟨vc, hve⟩ : ∃ v, v = V c := ⟨_, rfl⟩
                rw [← hve] at hvc hcv
                have hi1 : (c : Int) < (k : Int) + 2 := by omega
                clear hO4 hse hve
                go_wp2_with (at_builtin; refine wpList_append_own _ rfl _ _ 67 rfl w6.heap.size 9 i0 (.string ByteArray.empty) 1 16 Tryz.underlying67 hi hz0 hz1 hz2 rfl (by decide) _ _ _ rfl (hown.alloc _) ⟨wr.heap.size, 0, none⟩ 1 1 [.string s] rfl rfl ?d1 ?d2 ?d3 ?d4 ?d5 ?_)
                case d1 =>
                  intro j u hj
                  match j, hj with
                  | 0, hj => simp at hj; subst hj; simp [Addr.add]
                case d2 => intro u hu; simp at hu; subst hu; rfl
                case d3 => unfold maxLen; omega
                case d4 => omega
                case d5 => simp; omega
                · intro v' w8 hown8 hgrow8 _
                  have hK8 : Kp w6 w8 := (hK4.alloc _).grown hgrow8 (own_lt hown)
                  clear hgrow8 hown hK4
                  go_wp2
                  go_roundw
                  case rel => exact ⟨c + 1, by omega, by go_num, by rw [HT.out]; simpa using hown8, hK8⟩
                  case measure => simp [intOf] <;> omega
              · obtain rfl : c = k := by omega
                have hRl := HW.out.len
                have hTl : (R.take c).length = c := by rw [List.length_take, hRl]; omega
                have hTs : ∀ s ∈ R.take c, s.size = n := HW.out.sz.take c
                have hMk := rmake_any u17 (R.take c) (fun i hi => by rw [hTs _ (mem_of_at _ i hi)]; unfold maxLen; omega) wr (own_strs hown hTl)
                obtain ⟨e0, e1, e2⟩ := mk_all (by omega) (by omega) hn65 hTs
                rw [e0, e1, e2] at hMk
                have hp := HW.out.p
                have hq := HW.out.q
                have HRR : Hid (R = R.take c ++ [R.getD c noS] ++ [R.getD (c + 1) noS]) := by
                  show R = _
                  rw [← take_snoc (by omega), ← take_snoc (by omega), ← hRl, List.take_length]
                obtain ⟨p0, hp0⟩ : ∃ p, p = parS n (R.take c) := ⟨_, rfl⟩
                obtain ⟨q0, hq0⟩ : ∃ q, q = wgtS n (R.take c) := ⟨_, rfl⟩
                rw [← hp0] at hp hMk
                rw [← hq0] at hq hMk
                obtain ⟨pR, hpR⟩ : ∃ p, p = R.getD c noS := ⟨_, rfl⟩
                obtain ⟨qR, hqR⟩ : ∃ q, q = R.getD (c + 1) noS := ⟨_, rfl⟩
                rw [← hpR] at hp HRR
                rw [← hqR] at hq HRR
                have gP := (hK.trans hK4).held (HBb.out c (by omega))
                have gQ := (hK.trans hK4).held (HBb.out (c + 1) (by omega))
                have cP := (hK.trans hK4).held (HCc.out c (by omega))
                have cQ := (hK.trans hK4).held (HCc.out (c + 1) (by omega))
                obtain ⟨sP, hsP⟩ : ∃ p, p = L.getD c noS := ⟨_, rfl⟩
                obtain ⟨sQ, hsQ⟩ : ∃ p, p = L.getD (c + 1) noS := ⟨_, rfl⟩
                rw [← hsP] at hp cP
                rw [← hsQ] at hq cQ
                obtain ⟨bP, hbP⟩ : ∃ b, b = lsB lost c := ⟨_, rfl⟩
                obtain ⟨bQ, hbQ⟩ : ∃ b, b = lsB lost (c + 1) := ⟨_, rfl⟩
                rw [← hbP] at hp gP
                rw [← hbQ] at hq gQ
                have hK6 : Kp w w6 := K02.trans hK
                clear e0 e1 e2 hp0 hq0 hpR hqR hsP hsQ hbP hbQ hTs HCc HBb HW HO hRl K02 hk0 hk2' hK
                go_wp2_with fail
                refine hMk.mono ?_; rintro e w7 ⟨rfl, k7⟩
                replace gP := k7.held gP
                replace gQ := k7.held gQ
                replace cP := k7.held cP
                replace cQ := k7.held cQ
                have ho7 := k7.own hown
                have K7 := hK4.trans k7
                have hz7 := K7.size
                clear hMk hown hK4 k7
                have hp' : (bP = true ∧ pR = p0) ∨ (bP = false ∧ pR = sP) := by cases bP <;> simp at hp <;> simp [hp]
                have hq' : (bQ = true ∧ qR = q0) ∨ (bQ = false ∧ qR = sQ) := by cases bQ <;> simp at hq <;> simp [hq]
                clear hp hq
                rcases hp' with ⟨rfl, rfl⟩ | ⟨rfl, rfl⟩ <;> rcases hq' with ⟨rfl, rfl⟩ | ⟨rfl, rfl⟩
                all_goals (
                  go_wp2_with (at_builtin; refine wpList_append_own _ rfl _ _ 67 rfl w6.heap.size 9 i0 (.string ByteArray.empty) 1 16 Tryz.underlying67 hi hz0 hz1 hz2 rfl (by decide) _ _ _ rfl (ho7.alloc _) ⟨w7.heap.size, 0, none⟩ 1 1 [.string pR] rfl rfl ?f1 ?f2 ?f3 ?f4 ?f5 ?_)
                  (case f1 =>
                    intro j u hj
                    match j, hj with
                    | 0, hj => simp at hj; subst hj; simp [Addr.add])
                  (case f2 => intro u hu; simp at hu; subst hu; rfl)
                  (case f3 => unfold maxLen; omega)
                  (case f4 => omega)
                  (case f5 => simp; omega)
                  intro v8 w8 ho8 hg8 _
                  have K8 : Kp w6 w8 := (K7.alloc _).grown hg8 (own_lt ho7)
                  have hz8 := K8.size
                  clear hg8 ho7 K7 gP gQ cP cQ
                  go_wp2_with (at_builtin; refine wpList_append_own _ rfl _ _ 67 rfl w6.heap.size 9 i0 (.string ByteArray.empty) 1 16 Tryz.underlying67 hi hz0 hz1 hz2 rfl (by decide) _ _ _ rfl (ho8.alloc _) ⟨w8.heap.size, 0, none⟩ 1 1 [.string qR] rfl rfl ?h1 ?h2 ?h3 ?h4 ?h5 ?_)
                  (case h1 =>
                    intro j u hj
                    match j, hj with
                    | 0, hj => simp at hj; subst hj; simp [Addr.add])
                  (case h2 => intro u hu; simp at hu; subst hu; rfl)
                  (case h3 => unfold maxLen; omega)
                  (case h4 => omega)
                  (case h5 => simp; omega)
                  intro v9 w9 ho9 hg9 _
                  have K9 : Kp w6 w9 := (K8.alloc _).grown hg9 (own_lt ho8)
                  clear hg9 ho8 K8
                  go_wp2
                  go_ret2
                  exact ⟨_, rfl, own_strs (n := c + 1 + 1) (by rw [HRR.out]; simpa using ho9) (by rw [HRR.out]; simp [hTl]), hK6.trans K9, fun q hq => Nat.le_trans hK6.size (own_lt ho9 q hq)⟩)
      · have hEn : (E == 0) = false := by rw [beq_eq_false_iff_ne]; exact h0
        go_wp2
        go_ret2
        exact ⟨_, rfl, by rw [HRE.out, if_neg h0]; exact .empty none 0 (by unfold maxLen; omega), k1.trans K2, (fun q hq => by cases hq)⟩

theorem rfixN_any (w : World) (cv lv : Value) (L : List ByteArray) (lost : List Int) (hL : StrsIn w cv L) (hz : ∀ i, i < L.length → (L.getD i noS).size ≤ maxLen) (hI : IntsIn w lv lost) (hlo : lost.length * 8 ≤ 140737488355328) :
    Calls Tryz.prog 67 #[cv, lv] w fun e w' => ∃ v, e = .returned (.tuple #[v, .int .i64 (fxE L lost)]) ∧ StrsIn w' v (fxL L lost) ∧ Kp w w' ∧ ∀ q, v.ownBlock = some q → w.heap.size ≤ q := by
  by_cases hE : srE ((L.length : Int) - 2) lost = 0
  · obtain ⟨hk1, hk2, _, _⟩ := sr_zero hE
    obtain ⟨k, hk⟩ : ∃ k, L.length = k + 2 := ⟨L.length - 2, by omega⟩
    exact rfix_good w k cv lv L lost hL hz hI hlo hk (by rw [hk] at hE; rwa [show ((k + 2 : Nat) : Int) - 2 = (k : Int) by omega] at hE)
  · obtain ⟨e1, e2, e3⟩ := fx_not hE
    refine (rfix_bad w cv lv L lost hL hI hlo hE).mono ?_
    rintro e w' ⟨rfl, k⟩
    exact ⟨_, by rw [e1], by rw [e2]; exact .empty none 0 (by unfold maxLen; omega), k, (fun q hq => by cases hq)⟩


end Go.Proofs.YtonooelffokfkaaGreatDoor
