/-
  Contract of Spans, and a map of numbers of the call's own. Conditions: that the object lies in memory as QX says, that its blocks are places.
-/
import Derived.Test.YtdfdoinhkjoalaaQuDrain
import Derived.Test.YtdfdoinhkjoalaaSpAdd
import Derived.Test.YtdfdoinhkjoalaaSpHas
import Derived.Deep.DeepCutAuto
import Derived.Deep.CutBlock
import Derived.Maps.RangeWalk
namespace Go.Proofs.Ytdfdoinhkjoalaa
open Go.RowKit Plain Go.Maps Go.WideMaps
set_option linter.unusedVariables false

theorem len_tot : ∀ (l : List (Int × Int)) (e : Int), Nb e l → (l.length : Int) ≤ tot l
  | [], _, _ => by simp [tot]
  | p :: l, e, h => by
    have := len_tot l p.2 h.2.2
    have h2 := h.2.1
    simp only [tot, List.length_cons]
    omega
theorem sp_next {J R : List (Int × Int)} {A : List It} {x : It} (hJ : G J) (hA : ∀ z, hs J z = hsI A z) (ht : tot J = (A.length : Int)) (hx0 : 0 ≤ x.b) (hx1 : x.b < 1099511627776) (hn : hsI A x.b = false) (hR : G R) (hs' : ∀ z, hs R z = (hs J z || inS (x.b, x.b + 1) z)) : (∀ z, hs R z = hsI (A ++ [x]) z) ∧ tot R = ((A ++ [x]).length : Int) := by
  have hg : gd (x.b, x.b + 1) = true := (gd_iff _).2 ⟨hx0, by show x.b < x.b + 1; omega, by show x.b + 1 ≤ mA; unfold mA; omega⟩
  have hin : ∀ z, inS (x.b, x.b + 1) z = decide (x.b = z) := fun z => by
    rw [Bool.eq_iff_iff, inS_iff, decide_eq_true_eq]
    show x.b ≤ z ∧ z < x.b + 1 ↔ _
    omega
  refine ⟨fun z => ?_, ?_⟩
  · rw [hs', hA, hin]
    unfold hsI
    rw [List.any_append]
    simp
  · rw [hR.tot, cnt_add (hs R) (hs J) (inS (x.b, x.b + 1)) hs' (fun z => ?_), ← hJ.tot, ht, gd_cnt hg, List.length_append]
    · simp
      omega
    · rw [hA, hin]
      by_cases e : x.b = z
      · subst e; rw [hn]; rfl
      · rw [decide_eq_false e, Bool.and_false]
theorem sr_take_no {l : List It} (h : Sr l) {k : Nat} (hk : k < l.length) : hsI (l.take k) (l.getD k iz).b = false := by
  unfold hsI
  rw [List.any_eq_false]
  intro x hx
  have e := it_at hk
  rw [Sr, e, List.pairwise_append] at h
  have := h.2.2 x hx (l.getD k iz) (by simp)
  rw [decide_eq_true_eq]
  omega
theorem G.nil : G [] := ⟨trivial, by simp⟩
theorem Oi.cellsB {w : World} {base : Nat} {e : TypeId} {v : Value} {l : List It} (h : Oi w base e v l) : ∃ p g cap, v = .slice p l.length cap ∧ (0 < l.length → p = some ⟨g, 0, none⟩) ∧ l.length ≤ cap ∧ cap ≤ 9223372036854775807 ∧ ∀ i, i < l.length → w.cell? ⟨g, i * 3, none⟩ = some (.int .i64 (l.getD i iz).b) ∧ w.cell? ⟨g, i * 3 + 1, none⟩ = some (.string (l.getD i iz).d) ∧ w.cell? ⟨g, i * 3 + 2, none⟩ = some (.int .i64 (l.getD i iz).g) := by
  rcases h.row with ⟨rfl, rfl⟩ | ⟨g, cap, cs, rfl, _, R, hle, hcm, ht⟩
  · exact ⟨none, 0, 0, rfl, fun h => absurd h (by simp), by simp, by omega, fun i hi => absurd hi (by simp)⟩
  · refine ⟨_, g, cap, rfl, fun _ => rfl, hle, by unfold maxLen at hcm; omega, fun i hi => ?_⟩
    have hq := iv_at l i hi
    refine ⟨?_, ?_, ?_⟩
    · rw [World.ownsRow.cellAt h (i * 3) (by omega)]; exact hq.1
    · rw [World.ownsRow.cellAt h (i * 3 + 1) (by omega)]; exact hq.2.1
    · rw [World.ownsRow.cellAt h (i * 3 + 2) (by omega)]; exact hq.2.2
set_option maxRecDepth 100000 in
set_option maxHeartbeats 4000000 in
theorem qspans_any {w0 w : World} {a : Nat} {T : List Nat} {S : QS} (h : QX w0 w a T S) (hsr : Sr S.L) (hl : S.L.length ≤ 256) (hr : ∀ x ∈ S.L, 0 ≤ x.b ∧ x.b < 1099511627776) : Calls Try.prog 19 #[.pointer (some ⟨a, 0, none⟩)] w fun e w' => ∃ u J, e = .returned u ∧ SpIn w' u J ∧ G J ∧ (∀ z, hs J z = hsI S.L z) ∧ tot J = (S.L.length : Int) ∧ Kp w w' := by
  have hI := qitems_any h (by omega)
  obtain ⟨l, hL⟩ : ∃ l, l = S.L := ⟨_, rfl⟩
  rw [← hL] at hI hsr hl hr ⊢
  have HP : Hid (Sr l ∧ ∀ x ∈ l, 0 ≤ x.b ∧ x.b < 1099511627776) := ⟨hsr, hr⟩
  clear h hL hsr hr
  go_enter Try.func19, Try.ntmps19
  go_wp2_with fail
  refine hI.mono ?_; rintro e v1 ⟨u, rfl, ho, k1⟩
  obtain ⟨p, g, cap, rfl, hp, hle, hcp, hcl⟩ := ho.cellsB
  obtain ⟨n, hn⟩ : ∃ n, n = l.length := ⟨_, rfl⟩
  rw [← hn] at hp hle hcl hl ⊢
  have HN := hid hn
  have HC : Hid (∀ i, i < n → v1.cell? ⟨g, i * 3, none⟩ = some (.int .i64 (l.getD i iz).b) ∧ v1.cell? ⟨g, i * 3 + 1, none⟩ = some (.string (l.getD i iz).d) ∧ v1.cell? ⟨g, i * 3 + 2, none⟩ = some (.int .i64 (l.getD i iz).g)) := hcl
  have HPa := hid hp
  have HK1 := hid k1
  clear hn hcl hp k1 hI ho
  go_wp2
  go_loopw [9, 3] (fun i q wr => ∃ (k : Nat) (J : List (Int × Int)), i = .int .i64 k ∧ k ≤ n ∧ Hid (SpIn wr q J ∧ G J ∧ (∀ z, hs J z = hsI (l.take k) z) ∧ tot J = ((l.take k).length : Int) ∧ Kp v1 wr)) (fun i _ _ => n - (intOf i).toNat)
  case atStart => exact ⟨0, [], rfl, by omega, (⟨SpIn.nil _, G.nil, fun z => by simp [hs, hsI], by simp [tot], Kp.refl _⟩ : SpIn v1 (.slice none 0 0) [] ∧ G [] ∧ (∀ z, hs [] z = hsI (l.take 0) z) ∧ tot [] = ((l.take 0).length : Int) ∧ Kp v1 v1)⟩
  case round =>
    obtain ⟨k, J, rfl, hk, HJ⟩ := hrel
    by_cases hkn : k < n
    · obtain rfl := HPa.out (by omega)
      have hkl : k < l.length := by have := HN.out; omega
      obtain ⟨d0, d1, d2⟩ := HC.out k hkn
      have d0 := HJ.out.2.2.2.2.held d0
      have d1 := HJ.out.2.2.2.2.held d1
      have d2 := HJ.out.2.2.2.2.held d2
      obtain ⟨x, hx⟩ : ∃ x, x = l.getD k iz := ⟨_, rfl⟩
      have hmem : x ∈ l := by rw [hx, List.getD_eq_getElem?_getD, List.getElem?_eq_getElem hkl]; exact List.getElem_mem hkl
      obtain ⟨hx0, hx1⟩ := HP.out.2 x hmem
      have HX : Hid (hsI (l.take k) x.b = false ∧ l.take (k + 1) = l.take k ++ [x]) := ⟨by rw [hx]; exact sr_take_no HP.out.1 hkl, by rw [hx, List.take_add_one, List.getElem?_eq_getElem hkl, List.getD_eq_getElem?_getD, List.getElem?_eq_getElem hkl]; rfl⟩
      rw [← hx] at d0 d1 d2
      have hlt : (l.take k).length ≤ k := by rw [List.length_take]; omega
      have hJl : J.length ≤ 1000 := by
        have h1 := len_tot J _ HJ.out.2.1.nb
        have h2 := HJ.out.2.2.2.1
        omega
      obtain ⟨V, hV⟩ : ∃ V, V = wr.alloc (.cells #[.int .i64 x.b, .string x.d, .int .i64 x.g] 31) := ⟨_, rfl⟩
      obtain ⟨H, hH⟩ : ∃ H, H = wr.heap.size := ⟨_, rfl⟩
      have kV : Kp wr V := by rw [hV]; exact (Kp.refl wr).alloc _
      have e0 : V.cell? ⟨H, 0, none⟩ = some (.int .i64 x.b) := by rw [hV, hH, World.cell?_alloc_at _ _ _ _ rfl]; rfl
      have HV : Hid (V = wr.alloc (.cells #[.int .i64 x.b, .string x.d, .int .i64 x.g] 31) ∧ H = wr.heap.size) := ⟨hV, hH⟩
      have hA := add_any u3 J (x.b, x.b + 1) V (HJ.out.1.kept kV) hJl
      have hrf : rfE J (x.b, x.b + 1) = 0 := by
        unfold rfE
        rw [if_pos (show gL J = true from (gB_iff J (-1) (by omega)).2 ⟨HJ.out.2.1.nb, HJ.out.2.1.hi⟩), if_pos ((gd_iff _).2 ⟨hx0, by show x.b < x.b + 1; omega, by show x.b + 1 ≤ mA; unfold mA; omega⟩)]
      unfold spV at hA
      have HRF := hid hrf
      have HKV := hid kV
      clear hx hmem hV hH kV hlt hJl hrf
      go_upto_region 5 with fail
      rw [← HV.out.1, ← HV.out.2]
      clear HV d0 d1 d2
      go_wp2_with fail
      refine hA.mono ?_
      rintro e v2 ⟨u, R, rfl, q1, q2, q3, q4, q5⟩
      obtain ⟨g1, g2⟩ := q4 HRF.out
      obtain ⟨s1, s2⟩ := sp_next HJ.out.2.1 HJ.out.2.2.1 HJ.out.2.2.2.1 hx0 hx1 HX.out.1 g1 g2
      have HJ2 : Hid (SpIn v2 u R ∧ G R ∧ (∀ z, hs R z = hsI (l.take (k + 1)) z) ∧ tot R = ((l.take (k + 1)).length : Int) ∧ Kp v1 v2) := by rw [HX.out.2]; exact ⟨q1, g1, s1, s2, (HJ.out.2.2.2.2.trans HKV.out).trans q2⟩
      clear hA q1 q2 q3 q4 q5 g1 g2 s1 s2 HJ HX HRF HKV e0
      go_wp2
      go_roundw
      case rel => exact ⟨k + 1, R, by go_num, by omega, HJ2⟩
      case measure => simp [intOf]; omega
    · obtain rfl : k = n := by omega
      have ht : l.take k = l := List.take_of_length_le (by have := HN.out; omega)
      have HE := HJ.out
      rw [ht] at HE
      have HE := hid HE
      clear ht HJ
      go_wp2
      go_ret
      obtain ⟨q1, q2, q3, q4, q5⟩ := HE.out
      exact ⟨_, J, rfl, q1, q2, q3, by rw [q4], HK1.out.trans q5⟩

/-! ### a map of numbers -/
theorem zeroB (w : World) : (zeroValue 4).run Try.prog w = .ok (.bool false) w := by kernel_rfl
set_option maxRecDepth 100000 in
theorem elem_bool {v : Value} {z : DataW Unit × List MemPlace} (h : plainElem Try.prog 4 v = some z) : ∃ x, v = .bool x ∧ z = (.lit (.bool x), []) := by
  unfold plainElem at h
  rw [Try.underlying4] at h
  cases v <;> simp at h
  exact ⟨_, rfl, h.symm⟩
structure MpB (w : World) (b n c : Nat) (S : Int → Bool) (D : DataW Unit) : Prop where
  own : w.ownsMap Try.prog 3 (plainElem Try.prog 4) b n D
  sz : Maps.size D = c
  at_ : ∀ i, iOk i → Maps.has D (.int .i64 i) = S i ∧ (S i = true → D.atKey (.int .i64 i) (.lit (.bool false)) = .lit (.bool true))
theorem MpB.lt {w : World} {b n c : Nat} {S : Int → Bool} {D : DataW Unit} (h : MpB w b n c S D) : b < w.heap.size := h.own.lt
theorem MpB.sp {w w' : World} {b n c : Nat} {S : Int → Bool} {D : DataW Unit} {T : List Nat} (h : MpB w b n c S D) (k : Sp T w w') (hb : b ∉ T) : MpB w' b n c S D := by
  have hlt := h.own.lt
  obtain ⟨es, clock, hbk, F⟩ := h.own
  exact ⟨⟨es, clock, (k.block b hlt hb).trans hbk, F⟩, h.sz, h.at_⟩
theorem MpB.kp {w w' : World} {b n c : Nat} {S : Int → Bool} {D : DataW Unit} (h : MpB w b n c S D) (k : Kp w w') : MpB w' b n c S D := h.sp (k.sp []) (by simp)
theorem MpB.made (w : World) : MpB (w.alloc (.map #[] 0)) w.heap.size 0 0 (fun _ => false) (.map []) := ⟨World.ownsMap_made w _ _ _, rfl, fun _ _ => ⟨rfl, fun h => by cases h⟩⟩
theorem MpB.look {w : World} {b n c : Nat} {S : Int → Bool} {D : DataW Unit} (h : MpB w b n c S D) {i : Int} (hi : iOk i) :
    (Instr.lookup 49 (.map (some b)) (.int .i64 i) false).run Try.prog w = .ok (.bool (S i)) w := by
  obtain ⟨v, ps, hrun, hv⟩ := h.own.lookup int_key Try.underlying49 (zeroB w) (plainElem_bool Try.underlying4 false) (int_lit hi.1 hi.2)
  obtain ⟨g1, g2⟩ := h.at_ i hi
  have e : D.atKey (.int .i64 i) (.lit (.bool false)) = .lit (.bool (S i)) := by
    cases hS : S i with
    | true => exact g2 hS
    | false => exact Maps.atKey_of_not_has (by rw [g1, hS]) _
  rw [e] at hv
  obtain ⟨x, rfl, hx⟩ := elem_bool hv
  simp only [Prod.mk.injEq, DataW.lit.injEq, Lit.bool.injEq] at hx
  rw [hrun, hx.1]
theorem MpB.len {w : World} {b n c : Nat} {S : Int → Bool} {D : DataW Unit} (h : MpB w b n c S D) (ty : TypeId) : (Builtin.len_ #[49] ty #[.map (some b)]).run Try.prog w = .ok (.int .i64 (c : Int)) w := by
  rw [h.own.len Try.underlying49 ty, h.sz]
theorem MpB.put {w : World} {b n c : Nat} {S : Int → Bool} {D : DataW Unit} (h : MpB w b n c S D) {i : Int} (hi : iOk i) (hn : n < 1000) :
    ∃ w' D', (Instr.mapUpdate 49 (.map (some b)) (.int .i64 i) (.bool true)).run Try.prog w = .ok () w' ∧ MpB w' b (n + 1) (if S i = true then c else c + 1) (fun j => if j = i then true else S j) D' ∧ Sp [b] w w' := by
  have hkey := int_lit hi.1 hi.2
  obtain ⟨w', hrun, ho, hg⟩ := h.own.update int_key Try.underlying49 (by unfold maxLen; omega) hkey (plainElem_bool Try.underlying4 true)
  have hT := h.own.tidy int_key
  refine ⟨w', _, hrun, ⟨ho, ?_, fun j hj => ?_⟩, (grown_sp hg)⟩
  · rw [Maps.size_put hT, (h.at_ i hi).1, h.sz]
  · by_cases e : j = i
    · subst e
      show _ = (if j = j then true else S j) ∧ ((if j = j then true else S j) = true → _)
      rw [if_pos rfl]
      exact ⟨Maps.has_put_same (h.own.isMap) (by trivial) _, fun _ => Maps.atKey_put_same (h.own.isMap) (by trivial) _ _⟩
    · show _ = (if j = i then true else S j) ∧ ((if j = i then true else S j) = true → _)
      rw [if_neg e]
      have hne : (Lit.int .i64 j) ≠ (Lit.int .i64 i) := fun h => by
        injection h with _ h
        exact e h
      rw [Maps.has_put_other hne, Maps.atKey_put_other hne]
      exact h.at_ j hj
theorem MpB.del {w : World} {b n c : Nat} {S : Int → Bool} {D : DataW Unit} (h : MpB w b n c S D) {i : Int} (hi : iOk i) (ty : TypeId) :
    ∃ w', (Builtin.delete_ #[49, 3] ty #[.map (some b), .int .i64 i]).run Try.prog w = .ok (.tuple #[]) w' ∧ MpB w' b n (if S i = true then c - 1 else c) (fun j => if j = i then false else S j) (D.del (.int .i64 i)) ∧ Sp [b] w w' := by
  have hkey := int_lit hi.1 hi.2
  obtain ⟨w', hrun, ho, hg⟩ := h.own.drop int_key Try.underlying49 hkey ty
  have hT := h.own.tidy int_key
  refine ⟨w', hrun, ⟨ho, ?_, fun j hj => ?_⟩, (grown_sp hg.grown)⟩
  · have := Maps.size_del (k := Lit.int .i64 i) hT
    rw [(h.at_ i hi).1, h.sz] at this
    split
    · rename_i e; rw [if_pos e] at this; omega
    · rename_i e; rw [if_neg e] at this; omega
  · by_cases e : j = i
    · subst e
      show _ = (if j = j then false else S j) ∧ ((if j = j then false else S j) = true → _)
      rw [if_pos rfl]
      exact ⟨Maps.has_del_same, fun h => by cases h⟩
    · show _ = (if j = i then false else S j) ∧ ((if j = i then false else S j) = true → _)
      rw [if_neg e]
      have hne : (Lit.int .i64 j) ≠ (Lit.int .i64 i) := fun h => by
        injection h with _ h
        exact e h
      rw [Maps.has_del_other hne, Maps.atKey_del_other hne]
      exact h.at_ j hj

end Go.Proofs.Ytdfdoinhkjoalaa
