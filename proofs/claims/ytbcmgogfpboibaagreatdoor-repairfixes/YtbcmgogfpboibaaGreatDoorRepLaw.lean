/-
  What layer 5's laws have in common: their functions equal and row; that a row that fits is brought back, whatever stands in the place of the lost ones. Conditions: that the lists' cells hold the texts.
-/
import Derived.Test.YtbcmgogfpboibaaGreatDoorRepCut
import Derived.Test.YtbcmgogfpboibaaGreatDoorRepWakes
namespace Go.Proofs.YtbcmgogfpboibaaGreatDoor
open Go.RowKit Plain Go.BigFrame
set_option linter.unusedVariables false

/-! ### equal -/
theorem StrsIn.parts {w : World} {v : Value} {l : List ByteArray} (h : StrsIn w v l) : ∃ a b off cap, v = .slice a l.length cap ∧ l.length ≤ cap ∧ cap ≤ maxLen ∧ (0 < l.length → a = Option.some ⟨b, off, none⟩) ∧ ∀ i, i < l.length → w.cell? ⟨b, off + i, none⟩ = Option.some (.string (l.getD i noS)) := by
  cases h with
  | empty a cap h => exact ⟨a, 0, 0, cap, rfl, by simp, h, fun h => absurd h (by simp), fun i hi => absurd hi (by simp)⟩
  | some b off cap l h0 h1 h2 hc => exact ⟨_, b, off, cap, rfl, h1, h2, fun _ => rfl, hc⟩
theorem list_eq {A B : List ByteArray} (hl : A.length = B.length) (h : ∀ j, j < A.length → A.getD j noS = B.getD j noS) : A = B := by
  apply List.ext_getElem hl
  intro i h1 h2
  have := h i h1
  rwa [List.getD_eq_getElem?_getD, List.getD_eq_getElem?_getD, List.getElem?_eq_getElem h1, List.getElem?_eq_getElem h2] at this

set_option maxRecDepth 100000 in
set_option maxHeartbeats 4000000 in
theorem equal_any (va vb : Value) (A B : List ByteArray) (w : World) (hA : StrsIn w va A) (hB : StrsIn w vb B) : Calls Tryz.prog 18 #[va, vb] w fun e w' => e = .returned (.bool (decide (A = B))) ∧ Kp w w' := by
  obtain ⟨a1, b1, o1, c1, rfl, x1, x2, x3, x4⟩ := hA.parts
  obtain ⟨a2, b2, o2, c2, rfl, y1, y2, y3, y4⟩ := hB.parts
  clear hA hB
  unfold maxLen at x2 y2
  by_cases hl : A.length = B.length
  case neg =>
    rw [decide_eq_false (fun e => hl (by rw [e]))]
    have hne : ((A.length : Int) == (B.length : Int)) = false := by simp; omega
    obtain ⟨m, hm⟩ : ∃ m, m = A.length := ⟨_, rfl⟩
    obtain ⟨n, hn⟩ : ∃ m, m = B.length := ⟨_, rfl⟩
    rw [← hm, ← hn] at hne ⊢
    clear hl x1 x3 x4 y1 y3 y4 hm hn
    go_enter Tryz.func18, Tryz.ntmps18
    go_wp2
    go_ret
    exact ⟨rfl, Kp.refl _⟩
  rw [← hl] at y1 y3 y4 ⊢
  obtain ⟨R, hR⟩ : ∃ R, R = decide (A = B) := ⟨_, rfl⟩
  rw [← hR]
  have HR : Hid (R = decide (A = B)) := hR
  have HL : Hid (A.length = B.length) := hl
  clear hR hl
  have H1 : Hid (∀ i, i < A.length → w.cell? ⟨b1, o1 + i, none⟩ = some (.string (A.getD i noS))) := x4
  have H2 : Hid (∀ i, i < A.length → w.cell? ⟨b2, o2 + i, none⟩ = some (.string (B.getD i noS))) := y4
  clear x4 y4
  go_enter Tryz.func18, Tryz.ntmps18
  go_wp2
  go_loopw [13] (fun i wr => ∃ k : Nat, k ≤ A.length ∧ i = .int .i64 k ∧ (∀ j, j < k → A.getD j noS = B.getD j noS) ∧ Kp w wr) (fun i _ => A.length - (intOf i).toNat)
  case atStart => exact ⟨0, Nat.zero_le _, rfl, fun j hj => absurd hj (by omega), Kp.refl w⟩
  case round =>
    obtain ⟨k, hk, rfl, hE, hK⟩ := hrel
    have HE : Hid (∀ j, j < k → A.getD j noS = B.getD j noS) := hE
    have HK : Hid (Kp w wr) := hK
    clear hE
    by_cases hlt : k < A.length
    · obtain rfl := x3 (by omega)
      obtain rfl := y3 (by omega)
      have q1 : ∀ p, (kpw wr p).cell? ⟨b1, o1 + k, none⟩ = some (.string (A.getD k noS)) := fun p => kpw_cell (hK.held (H1.out k hlt)) p
      have q2 : ∀ p, (kpw wr p).cell? ⟨b2, o2 + k, none⟩ = some (.string (B.getD k noS)) := fun p => kpw_cell (hK.held (H2.out k hlt)) p
      obtain ⟨s, hs⟩ : ∃ s, s = A.getD k noS := ⟨_, rfl⟩
      obtain ⟨t, ht⟩ : ∃ t, t = B.getD k noS := ⟨_, rfl⟩
      have HS : Hid (s = A.getD k noS) := hs
      have HT : Hid (t = B.getD k noS) := ht
      rw [← hs] at q1
      rw [← ht] at q2
      clear hs ht hK x3 y3
      by_cases hst : s = t
      · subst hst
        have hee : (s.toList == s.toList) = true := by simp
        go_wp2_with fail
        refine wp_region_kp (by kernel_rfl) (by kernel_rfl) ?_
        repeat (first
          | go_big_quiet_skip
          | (go_big_quiet_want; go_big_quiet_op; go_big_quiet_on))
        refine wpQuiet_nil ?_
        rintro w' ⟨p, rfl⟩
        go_wp2
        go_roundw
        case rel =>
          refine ⟨k + 1, by omega, by go_num, fun j hj => ?_, HK.out.trans (kpw_kp _ p)⟩
          by_cases e : j = k
          · rw [e, ← HS.out, ← HT.out]
          · exact HE.out j (by omega)
        case measure => simp [intOf] <;> omega
      · have hee : (s.toList == t.toList) = false := text_ne hst
        have HF : Hid (R = false) := by
          show R = false
          rw [HR.out, decide_eq_false_iff_not]
          intro e
          exact hst (by rw [HS.out, HT.out, e])
        clear hst
        go_wp2_with fail
        refine wp_region_kp (by kernel_rfl) (by kernel_rfl) ?_
        repeat (first
          | go_big_quiet_skip
          | (go_big_quiet_want; go_big_quiet_op; go_big_quiet_on))
        refine wpQuiet_nil ?_
        rintro w' ⟨p, rfl⟩
        go_wp2
        go_ret
        exact ⟨by rw [HF.out]; rfl, HK.out.trans (kpw_kp _ p)⟩
    · obtain rfl : k = A.length := by omega
      have HF : Hid (R = true) := by
        show R = true
        rw [HR.out, decide_eq_true_iff]
        exact list_eq HL.out HE.out
      go_wp2
      go_ret
      exact ⟨by rw [HF.out]; rfl, HK.out⟩

/-! ### row -/
def rwL (D : List ByteArray) : List ByteArray := cutL 40 true D (min D.length 36)
def rowL (D : List ByteArray) : List ByteArray := if mkE (rwL D) = 0 then rwL D ++ [parS (cutO 40 (D.getD 0 noS)).size (rwL D), wgtS (cutO 40 (D.getD 0 noS)).size (rwL D)] else []
theorem rw_sz (D : List ByteArray) : Sz (cutO 40 (D.getD 0 noS)).size (rwL D) := fun s hs => by
  unfold rwL cutL at hs
  obtain ⟨i, _, rfl⟩ := List.mem_map.1 hs
  exact cutE_size D i
theorem rw_ln (D : List ByteArray) : (cutO 40 (D.getD 0 noS)).size ≤ 40 := cutO_le _
theorem rw_mk {D : List ByteArray} (h : mkE (rwL D) = 0) : pS (rwL D) = parS (cutO 40 (D.getD 0 noS)).size (rwL D) ∧ qS (rwL D) = wgtS (cutO 40 (D.getD 0 noS)).size (rwL D) := by
  obtain ⟨h1, h2, _⟩ := mk_ok h
  have := mk_all h1 h2 (by have := rw_ln D; omega) (rw_sz D)
  exact this.2
/-- a row of the laws fits. -/
theorem rowL_fits {D : List ByteArray} (h : mkE (rwL D) = 0) : Fits (cutO 40 (D.getD 0 noS)).size (rwL D).length (rowL D) := by
  unfold rowL
  rw [if_pos h]
  exact row_fits (rw_sz D)
theorem rowL_len {D : List ByteArray} (h : mkE (rwL D) = 0) : (rowL D).length = (rwL D).length + 2 ∧ 2 ≤ (rwL D).length ∧ (rwL D).length ≤ 30 := by
  obtain ⟨h1, h2, _⟩ := mk_ok h
  exact ⟨(rowL_fits h).len, h1, h2⟩
set_option maxRecDepth 100000 in
set_option maxHeartbeats 4000000 in
theorem row_any (v : Value) (D : List ByteArray) (hs : ∀ i, i < D.length → (D.getD i noS).size ≤ maxLen) (w : World) (h : StrsIn w v D) :
    Calls Tryz.prog 19 #[v] w fun e w' => ∃ v', e = .returned v' ∧ StrsIn w' v' (rowL D) ∧ Kp w w' := by
  obtain ⟨i0, hi, hz0, hz1, hz2⟩ := info_parts info_str5
  have hC := cut_any (n := 40) (by omega) true v D hs w h
  rw [← show rwL D = cutL 40 true D (min D.length 36) from rfl] at hC
  have hlen : (rwL D).length = min D.length 36 := cutL_length _ _ _
  rw [← hlen] at hC
  have hsm : ∀ i, i < (rwL D).length → ((rwL D).getD i noS).size ≤ maxLen := cutL_small (by omega) true D _
  have hM := fun (v' : Value) (w' : World) (h' : StrsIn w' v' (rwL D)) => make_any v' (rwL D) hsm w' h'
  have hle : (rwL D).length ≤ 36 := by omega
  by_cases hE : mkE (rwL D) = 0
  · have hr : rowL D = rwL D ++ [parS (cutO 40 (D.getD 0 noS)).size (rwL D), wgtS (cutO 40 (D.getD 0 noS)).size (rwL D)] := by unfold rowL; rw [if_pos hE]
    rw [hr]
    rw [hE, (rw_mk hE).1, (rw_mk hE).2] at hM
    obtain ⟨P, hP⟩ : ∃ P, P = parS (cutO 40 (D.getD 0 noS)).size (rwL D) := ⟨_, rfl⟩
    obtain ⟨Q, hQ⟩ : ∃ P, P = wgtS (cutO 40 (D.getD 0 noS)).size (rwL D) := ⟨_, rfl⟩
    rw [← hP, ← hQ] at hM ⊢
    obtain ⟨L, hL⟩ : ∃ L, L = rwL D := ⟨_, rfl⟩
    rw [← hL] at hM hC hle ⊢
    clear hP hQ hL hr hE hsm hlen hs h
    go_enter Tryz.func19, Tryz.ntmps19
    go_wp2_with fail
    refine hC.mono ?_; rintro e w1 ⟨v1, rfl, ho, k1⟩
    have hM1 := hM v1 w1 (StrsIn.owned ho)
    clear hC hM
    go_wp2_with fail
    refine hM1.mono ?_; rintro e w2 ⟨rfl, k2⟩
    have ho2 := k2.own ho
    have K2 := k1.trans k2
    have hz := K2.size
    clear hM1 ho k1 k2
    go_wp2_with (at_builtin; refine wpList_append_own _ rfl _ _ 33 rfl w.heap.size 9 i0 (.string ByteArray.empty) 1 16 Tryz.underlying33 hi hz0 hz1 hz2 rfl (by decide) _ _ _ rfl (ho2.alloc _) ⟨w2.heap.size, 0, none⟩ 2 2 [.string P, .string Q] rfl rfl ?c1 ?c2 ?c3 ?c4 ?c5 ?_)
    case c1 =>
      intro j u hj
      match j, hj with
      | 0, hj => simp at hj; subst hj; simp [Addr.add]
      | 1, hj => simp at hj; subst hj; simp [Addr.add]
    case c2 => intro u hu; simp at hu; rcases hu with rfl | rfl <;> rfl
    case c3 => unfold maxLen; omega
    case c4 => omega
    case c5 => simp; omega
    · intro v' w3 hown3 hgrow3 _
      have hK3 : Kp w w3 := (K2.alloc _).grown hgrow3 (own_lt ho2)
      have hS3 : StrsIn w3 v' (L ++ [P, Q]) := StrsIn.owned (by simpa using hown3)
      clear hgrow3 ho2 K2 hown3
      go_wp2
      go_ret
      exact ⟨v', rfl, hS3, hK3⟩
  · have hr : rowL D = [] := by unfold rowL; rw [if_neg hE]
    rw [hr]
    obtain ⟨E, hE'⟩ : ∃ E, E = mkE (rwL D) := ⟨_, rfl⟩
    obtain ⟨P, hP⟩ : ∃ P, P = pS (rwL D) := ⟨_, rfl⟩
    obtain ⟨Q, hQ⟩ : ∃ P, P = qS (rwL D) := ⟨_, rfl⟩
    rw [← hE', ← hP, ← hQ] at hM
    rw [← hE'] at hE
    have hEn : (E == 0) = false := by rw [beq_eq_false_iff_ne]; exact hE
    clear hE' hP hQ hr hsm hlen hs h
    go_enter Tryz.func19, Tryz.ntmps19
    go_wp2_with fail
    refine hC.mono ?_; rintro e w1 ⟨v1, rfl, ho, k1⟩
    have hM1 := hM v1 w1 (StrsIn.owned ho)
    clear hC hM
    go_wp2_with fail
    refine hM1.mono ?_; rintro e w2 ⟨rfl, k2⟩
    go_wp2
    go_ret
    exact ⟨.slice none 0 0, rfl, .empty none 0 (by unfold maxLen; omega), k1.trans k2⟩

/-! ### a row that fits is brought back -/
theorem kept_same {A L : List ByteArray} {g : List Nat} (hl : L.length = A.length) (h : ∀ i, i < A.length → i ∉ g → L.getD i noS = A.getD i noS) : keptL L L.length g = keptL A A.length g := by
  unfold keptL
  rw [hl]
  apply List.map_congr_left
  intro i hi
  unfold keptI at hi
  rw [List.mem_filter, List.mem_range] at hi
  exact h i hi.1 (by simpa using hi.2)
theorem blk_same {n : Nat} {A L : List ByteArray} {g : List Nat} (hl : L.length = A.length) (h : ∀ i, i < A.length → i ∉ g → L.getD i noS = A.getD i noS) : blk n L g = blk n A g := by
  refine list_eq (by rw [blk_length, blk_length, hl]) fun i hi => ?_
  rw [blk_length] at hi
  rw [blk_at n g L i hi, blk_at n g A i (by omega)]
  by_cases hg : i ∈ g
  · rw [if_pos hg, if_pos hg]
  · rw [if_neg hg, if_neg hg]; exact h i (by omega) hg
theorem fx_row {n k : Nat} {A L : List ByteArray} (hF : Fits n k A) (hk1 : 2 ≤ k) (hk2 : k ≤ 30) (hn : n ≤ 65536) (hl : L.length = A.length) (lost : List Int) (hin : ∀ x, x ∈ lost → 0 ≤ x ∧ x < (k : Int) + 2) (hg : (gn (k + 2) lost).length ≤ 2)
    (h : ∀ i, i < A.length → i ∉ gn (k + 2) lost → L.getD i noS = A.getD i noS) : fxE L lost = 0 ∧ fxL L lost = A ∧ ∀ cnt, fxC cnt L lost = up cnt (kdN k (gn (k + 2) lost)) := by
  have hA := hF.len
  have hLk : L.length = k + 2 := by omega
  have hdk : (L.length : Int) - 2 = (k : Int) := by omega
  have hall : ∀ x, x ∈ lost → 0 ≤ x ∧ x < ((k + 2 : Nat) : Int) := fun x hx => by have := hin x hx; omega
  have hdl : (dst lost).length = (gn (k + 2) lost).length := by rw [dst_gn (k + 2) lost hall, List.length_map]
  have hib : inB (k : Int) lost = true := by
    unfold inB
    exact List.all_eq_true.2 fun x hx => decide_eq_true (hin x hx)
  have hsr : srE (k : Int) lost = 0 := (sr_ok (by omega) (by omega) hib (by omega)).1
  have hgg : gnL L lost = gn (k + 2) lost := by unfold gnL; rw [hLk]
  have hks := kept_same hl h
  have hfit : fitE (keptL A A.length (gn (k + 2) lost)) = 0 := by
    have hsz : ∀ s, s ∈ keptL A A.length (gn (k + 2) lost) → s.size = n := fun s hs => by
      obtain ⟨i, hi, _, rfl⟩ := keptL_mem hs
      exact hF.sz.at i hi
    exact fit_ok (fun i hi => by rw [hsz _ (mem_of_at _ i hi)]; exact hn) (fun i hi => by rw [hsz _ (mem_of_at _ i hi), hsz _ (mem_of_at _ 0 (by omega))])
  have hln : lnS L (gn (k + 2) lost) = n := by
    unfold lnS
    rw [hks]
    obtain ⟨i, hi, _, e⟩ := keptL_mem (mem_of_at (keptL A A.length (gn (k + 2) lost)) 0 (keptL_pos hg (by omega)))
    rw [e]; exact hF.sz.at i hi
  have he : fxE L lost = 0 := by
    rw [fx_un (by rw [hdk]; exact hsr), hgg, hks]; exact hfit
  refine ⟨he, ?_, fun cnt => by unfold fxC; rw [if_pos he, hgg, hLk]; rfl⟩
  unfold fxL
  rw [if_pos he, hgg, hln, blk_same hl h, hLk]
  show fixZ n k (blk n A (gn (k + 2) lost)) (gn (k + 2) lost) = A
  have hrise := gn_lt (k + 2) lost
  have hx : ∀ x, x ∈ gn (k + 2) lost → x < k + 2 := fun x hx => ((gn_mem _ _ x).1 hx).1
  generalize gn (k + 2) lost = g at hg hrise hx
  match g, hg, hrise, hx with
  | [], _, _, _ => rfl
  | [i], _, _, hx => exact fix_one hF (hx i (by simp))
  | [i, j], _, hr, hx => exact fix_two hF hk2 (by simpa using hr) (hx j (by simp))
  | _ :: _ :: _ :: _, hg, _, _ => exact absurd hg (by simp)

end Go.Proofs.YtbcmgogfpboibaaGreatDoor
