/-
  The contract of blank: the error of the columns that are there, or noughts in the place of the lost ones. Conditions: that the row's cells and the lost ones' numbers hold what they are said to hold.
-/
import Derived.Test.YtbcmgogfpboibaaGreatDoorRepRes
import Derived.Deep.OwnRows
namespace Go.Proofs.YtbcmgogfpboibaaGreatDoor
open Go.RowKit Plain Go.BigFrame
set_option linter.unusedVariables false

theorem info_str5 : (Tryz.prog.info? 9).map (fun i => (i.zero, i.size, i.bytes)) = some (some (.string ByteArray.empty), 1, 16) := by kernel_rfl
/-- the columns that are there. -/
def keptI (m : Nat) (g : List Nat) : List Nat := (List.range m).filter fun i => !g.contains i
def keptL (L : List ByteArray) (m : Nat) (g : List Nat) : List ByteArray := (keptI m g).map fun i => L.getD i noS
theorem keptL_in {L : List ByteArray} {m : Nat} {g : List Nat} (h : g.contains m = false) : keptL L (m + 1) g = keptL L m g ++ [L.getD m noS] := by
  have hm : m ∉ g := by simpa using h
  unfold keptL keptI; rw [List.range_succ, List.filter_append, List.map_append]; simp [hm]
theorem keptL_out {L : List ByteArray} {m : Nat} {g : List Nat} (h : g.contains m = true) : keptL L (m + 1) g = keptL L m g := by
  have hm : m ∈ g := by simpa using h
  unfold keptL keptI; rw [List.range_succ, List.filter_append, List.map_append]; simp [hm]
theorem keptL_le (L : List ByteArray) (m : Nat) (g : List Nat) : (keptL L m g).length ≤ m := by
  unfold keptL keptI; rw [List.length_map]; exact Nat.le_trans (List.length_filter_le _ _) (by simp)
theorem contains_nat (g : List Nat) (m : Nat) : (g.map (fun i : Nat => (i : Int))).contains (m : Int) = g.contains m := by
  rw [Bool.eq_iff_iff]; simp
  constructor
  · rintro ⟨a, ha, e⟩
    obtain rfl : a = m := by omega
    exact ha
  · intro h; exact ⟨m, h, rfl⟩
theorem keptI_some : ∀ {g : List Nat}, g.length ≤ 2 → ∃ i, i < 3 ∧ i ∉ g
  | [], _ => ⟨0, by omega, by simp⟩
  | [a], _ => if h : a = 0 then ⟨1, by omega, by simp; omega⟩ else ⟨0, by omega, by simp; omega⟩
  | [a, b], _ => by
    by_cases h0 : 0 ∈ [a, b]
    · by_cases h1 : 1 ∈ [a, b]
      · refine ⟨2, by omega, ?_⟩
        simp at h0 h1 ⊢; omega
      · exact ⟨1, by omega, h1⟩
    · exact ⟨0, by omega, h0⟩
  | _ :: _ :: _ :: _, h => absurd h (by simp)
theorem keptL_pos {L : List ByteArray} {g : List Nat} {m : Nat} (h : g.length ≤ 2) (hm : 3 ≤ m) : 0 < (keptL L m g).length := by
  obtain ⟨i, hi, hg⟩ := keptI_some h
  unfold keptL
  rw [List.length_map]
  apply List.length_pos_of_mem (a := i)
  unfold keptI
  rw [List.mem_filter, List.mem_range]
  exact ⟨by omega, by simpa using hg⟩
theorem keptL_mem {L : List ByteArray} {m : Nat} {g : List Nat} {s : ByteArray} (h : s ∈ keptL L m g) : ∃ i, i < m ∧ i ∉ g ∧ s = L.getD i noS := by
  unfold keptL keptI at h
  obtain ⟨i, hi, rfl⟩ := List.mem_map.1 h
  rw [List.mem_filter, List.mem_range] at hi
  exact ⟨i, hi.1, by simpa using hi.2, rfl⟩
theorem own_strs {w : World} {base n : Nat} {e : TypeId} {v : Value} {M : List ByteArray} (h : w.ownsRow base e 1 v n (M.map Value.string)) (hM : M.length = n) : StrsIn w v M := by
  rcases h.2 with ⟨rfl, h0⟩ | ⟨g, cap, cur, rfl, hb, hg, h1, h2, h3, h4⟩
  · obtain rfl : M = [] := List.eq_nil_of_length_eq_zero (by omega)
    exact .empty none 0 (by unfold maxLen; omega)
  · subst hM
    by_cases h0 : M.length = 0
    · obtain rfl : M = [] := List.eq_nil_of_length_eq_zero h0
      exact .empty _ cap h2
    · exact .some g 0 cap M (by omega) h1 h2 (fun i hi => by rw [Nat.zero_add]; exact own_at h rfl i hi)
theorem blk_snoc (n : Nat) (L : List ByteArray) (g : List Nat) (i : Nat) : blk n L (g ++ [i]) = (blk n L g).set i (zs n) := by unfold blk; rw [List.foldl_append]; rfl
theorem take_succ_nat (l : List Nat) (k : Nat) (h : k < l.length) : l.take (k + 1) = l.take k ++ [l.getD k 0] := by
  rw [List.take_add_one, List.getElem?_eq_getElem h, List.getD_eq_getElem?_getD, List.getElem?_eq_getElem h]; rfl
theorem IntsAt.at {w : World} {B : Nat} {v : Value} {g : List Nat} (h : IntsAt w B v (g.map (fun i : Nat => (i : Int)))) : ∃ a cap, v = .slice a g.length cap ∧ ∃ G, (0 < g.length → a = Option.some ⟨G, 0, none⟩) ∧ (0 < g.length → B ≤ G) ∧ ∀ i, i < g.length → w.cell? ⟨G, i, none⟩ = Option.some (.int .i64 ((g.getD i 0 : Nat) : Int)) := by
  obtain ⟨l, hl⟩ : ∃ l, l = g.map (fun i : Nat => (i : Int)) := ⟨_, rfl⟩
  rw [← hl] at h
  have hL : l.length = g.length := by rw [hl, List.length_map]
  cases h with
  | empty a cap h =>
    have h0 : g.length = 0 := by simpa using hL.symm
    rw [← h0]
    exact ⟨a, cap, by rw [h0], 0, fun h => absurd h (by omega), fun h => absurd h (by omega), fun i hi => absurd hi (by omega)⟩
  | some G cap l h0 h1 h2 hB hc =>
    refine ⟨_, cap, by rw [hL], G, fun _ => rfl, fun _ => hB, fun i hi => ?_⟩
    rw [hc i (by omega), hl]
    simp [List.getD_eq_getElem?_getD, List.getElem?_eq_getElem hi]

set_option maxRecDepth 100000 in
set_option maxHeartbeats 8000000 in
theorem blank_any {w : World} {R f b C k cap : Nat} {gv : Value} {L : List ByteArray} {cnt : Nat → Int} (h : RowIn w R f b C k cap gv L cnt) (hk1 : 2 ≤ k) (hk2 : k ≤ 30) (hs : ∀ i, i < L.length → (L.getD i noS).size ≤ maxLen) (B : Nat) (hB : C < B ∧ B ≤ w.heap.size) (g : List Nat) (hg : IntsAt w B gv (g.map (fun i : Nat => (i : Int)))) (hgl : g.length ≤ 2) (hgr : ∀ x, x ∈ g → x < k + 2) :
    Calls Tryz.prog 27 #[.pointer (some ⟨R, 0, none⟩)] w fun e w' => e = .returned (.int .i64 (fitE (keptL L (k + 2) g))) ∧ (fitE (keptL L (k + 2) g) = 0 → RowIn w' R f b C k cap gv (blk ((keptL L (k + 2) g).getD 0 noS).size L g) cnt) ∧ Sp [C] w w' := by
  obtain ⟨i0, hi, hz0, hz1, hz2⟩ := info_parts info_str5
  have hl := h.len
  have hcap1 := h.cap1
  have e2 := h.r2
  have H : Hid (RowIn w R f b C k cap gv L cnt) := h
  obtain ⟨M, hM⟩ : ∃ M, M = keptL L (k + 2) g := ⟨_, rfl⟩
  rw [← hM]
  obtain ⟨E, hE⟩ : ∃ E, E = fitE M := ⟨_, rfl⟩
  rw [← hE]
  obtain ⟨x0, hx0⟩ : ∃ x0, x0 = M.getD 0 noS := ⟨_, rfl⟩
  rw [← hx0]
  have HM : Hid (M = keptL L (k + 2) g) := hM
  have HE : Hid (E = fitE M) := hE
  have HX0 : Hid (x0 = M.getD 0 noS) := hx0
  clear h hM hE hx0
  go_enter Tryz.func27, Tryz.ntmps27
  go_wp2
  go_loopw [3, 15] (fun v i wr => ∃ m : Nat, m ≤ k + 2 ∧ i = .int .i64 m ∧ wr.ownsRow w.heap.size 9 1 v (keptL L m g).length ((keptL L m g).map Value.string) ∧ Kp w wr) (fun _ i _ => k + 2 - (intOf i).toNat)
  case atStart => exact ⟨0, by omega, rfl, World.ownsRow_nil _ _ _ _, Kp.refl w⟩
  case round =>
    obtain ⟨m, hm, rfl, hown, hK⟩ := hrel
    by_cases hlt : m < k + 2
    · have hcm := hK.held (H.out.cols.c m (by omega))
      have e3 := (H.out.kp hK).r3
      have hC := contains_any gv _ (m : Int) B wr (hg.kept hK)
      rw [contains_nat] at hC
      obtain ⟨s, hse⟩ : ∃ s, s = L.getD m noS := ⟨_, rfl⟩
      rw [← hse] at hcm
      have HS : Hid (s = L.getD m noS) := hse
      have hle := keptL_le L m g
      have hz := hK.size
      clear hse hs
      by_cases hct : g.contains m = true
      · have HO : Hid (keptL L (m + 1) g = keptL L m g) := keptL_out hct
        rw [hct] at hC
        clear hct
        go_wp2_with (go_at_call 37; refine hC.mono ?_; rintro e w2 ⟨rfl, rfl⟩)
        go_roundw
        case rel => exact ⟨m + 1, by omega, by go_num, by rw [HO.out]; exact hown, hK⟩
        case measure => simp [intOf] <;> omega
      · have hcf : g.contains m = false := by simpa using hct
        have HO : Hid (keptL L (m + 1) g = keptL L m g ++ [L.getD m noS]) := keptL_in hcf
        rw [hcf] at hC
        clear hct hcf
        go_wp2_with fail
        refine hC.mono ?_; rintro e w2 ⟨rfl, rfl⟩
        go_wp2_with (at_builtin; refine wpList_append_own _ rfl _ _ 33 rfl w.heap.size 9 i0 (.string ByteArray.empty) 1 16 Tryz.underlying33 hi hz0 hz1 hz2 rfl (by decide) _ _ _ rfl (hown.alloc _) ⟨w2.heap.size, 0, none⟩ 1 1 [.string s] rfl rfl ?c1 ?c2 ?c3 ?c4 ?c5 ?_)
        case c1 =>
          intro j u hj
          match j, hj with
          | 0, hj => simp at hj; subst hj; simp [Addr.add]
        case c2 => intro u hu; simp at hu; subst hu; rfl
        case c3 => unfold maxLen; omega
        case c4 => omega
        case c5 => simp; omega
        · intro v' w3 hown3 hgrow3 _
          have hK3 : Kp w w3 := (hK.alloc _).grown hgrow3 (own_lt hown)
          clear hgrow3 hown hK
          go_wp2
          go_roundw
          case rel => exact ⟨m + 1, by omega, by go_num, by rw [HO.out]; simpa [HS.out] using hown3, hK3⟩
          case measure => simp [intOf] <;> omega
    · obtain rfl : m = k + 2 := by omega
      have hkz : ∀ i, i < (keptL L (k + 2) g).length → ((keptL L (k + 2) g).getD i noS).size ≤ maxLen := fun i hi => by
        obtain ⟨j, hj, _, e⟩ := keptL_mem (mem_of_at _ i hi)
        rw [e]; exact hs j (by omega)
      have hpos : 0 < (keptL L (k + 2) g).length := keptL_pos hgl (by omega)
      have hA := add_any _ _ hkz wr (own_strs hown rfl)
      rw [← HM.out] at hA hown hpos
      clear hkz hs
      rcases hown.2 with ⟨rfl, h0⟩ | ⟨Kb, kc, cur, rfl, hKb, hcur, r1, r2, r3, r4⟩
      · omega
      have hk0 : wr.cell? ⟨Kb, 0, none⟩ = some (.string (M.getD 0 noS)) := own_at hown rfl 0 hpos
      obtain ⟨A, hA'⟩ : ∃ A, A = resOf M (addS M) := ⟨_, rfl⟩
      have hfit := fit_is M
      rw [← HE.out] at hA hfit
      rw [← hA'] at hA
      have hr := fit_range M
      rw [← HE.out] at hr
      obtain ⟨ml, hml⟩ : ∃ ml, ml = M.length := ⟨_, rfl⟩
      rw [← hml] at hA hpos hown r1 ⊢
      have h65 : E = 0 → (M.getD 0 noS).size ≤ 65536 := fun h0 => (hfit h0).1 0 (by omega)
      rw [← HX0.out] at hk0 h65
      clear hA' hfit hml r3 r4 hcur hown
      go_wp2_with fail
      refine hA.mono ?_; rintro e w2 ⟨rfl, k2⟩
      have K2 := hK.trans k2
      have hk2' := k2.held hk0
      clear hA k2 hk0 hK
      by_cases h0 : E = 0
      · have hx := h65 h0
        subst h0
        have h2 := H.out.kp K2
        have e3 := h2.r3
        have hg2 := hg.kept K2
        obtain ⟨ga, gc, rfl, G, ha, hBG, hgc⟩ := hg2.at
        have HG : Hid (∀ i, i < g.length → w2.cell? ⟨G, i, none⟩ = some (.int .i64 ((g.getD i 0 : Nat) : Int))) := hgc
        have H2 : Hid (RowIn w2 R f b C k cap (.slice ga g.length gc) L cnt) := h2
        have hKb2 : Kb ≠ C := by have := H.out.cols.hC; omega
        clear hgc h2 hg2 hg hr h65 H
        go_wp2
        go_loopw [45] (fun i wr => ∃ m : Nat, m ≤ g.length ∧ i = .int .i64 m ∧ RowIn wr R f b C k cap (.slice ga g.length gc) (blk x0.size L (g.take m)) cnt ∧ Sp [C] w2 wr) (fun i _ => g.length - (intOf i).toNat)
        case atStart => exact ⟨0, by omega, rfl, H2.out, Sp.refl _ _⟩
        case round =>
          obtain ⟨m, hm, rfl, hrow, hS⟩ := hrel
          by_cases hlt : m < g.length
          · obtain rfl := ha (by omega)
            have hGB := hBG (by omega)
            have hgm := hS.held (HG.out m hlt) (by simp; omega)
            have hx := hgr (g.getD m 0) (by rw [List.getD_eq_getElem?_getD, List.getElem?_eq_getElem hlt]; exact List.getElem_mem hlt)
            have hk3 := hS.held hk2' (by simpa using hKb2)
            have HT : Hid (g.take (m + 1) = g.take m ++ [g.getD m 0]) := take_succ_nat g m hlt
            obtain ⟨i, hii⟩ : ∃ i, i = g.getD m 0 := ⟨_, rfl⟩
            rw [← hii] at hgm hx HT
            have hN := noughts_any (x0.size : Int) (by omega) (by omega) wr.drew
            rw [show noughtN (x0.size : Int) = x0.size by unfold noughtN; omega] at hN
            obtain ⟨f1, _, _, _⟩ := hrow.facts i hx
            have HR : Hid (RowIn wr R f b C k cap (.slice (some ⟨G, 0, none⟩) g.length gc) (blk x0.size L (g.take m)) cnt) := hrow
            have HSS : Hid (Sp [C] w2 wr) := hS
            clear hrow hS hii e3 hBG ha
            go_wp2_with fail
            have j1 : (0 : Int) ≤ (i : Int) := by omega
            have j2 : (i : Int) < (k : Int) + 2 := by omega
            go_region_held3 (fun w' => w'.cell? ⟨R, 2, none⟩ = some (.slice (some ⟨C, 0, none⟩) (k + 2) cap) ∧ w'.cell? ⟨Kb, 0, none⟩ = some (.string x0)) (first | go_keep | exact ⟨f1, f5⟩ | exact ⟨f4 _, f6 _⟩)
              (first | (go_at_call 39; refine hN.mono ?_; rintro e w4 ⟨rfl, k4⟩; have k4' := (Kp.refl wr).drew.trans k4; have h4 := HR.out.kp k4'; obtain ⟨f1, f2, f3, f4⟩ := h4.facts i hx; have f5 := k4'.held hk3; have f6 : ∀ v, (w4.setCell ⟨C, i, none⟩ v).cell? ⟨Kb, 0, none⟩ = some (.string x0) := fun v => (World.cell?_setCell_other _ _ _ _ (by intro e; cases e; exact hKb2 rfl)).trans f5))
            go_wp2
            go_roundw
            case rel => exact ⟨m + 1, by omega, by go_num, by rw [HT.out, blk_snoc]; exact h4.set i hx _, (HSS.out.trans (k4'.sp [C])).set C i (by simp) _⟩
            case measure => simp [intOf] <;> omega
          · obtain rfl : m = g.length := by omega
            rw [List.take_length] at hrow
            go_wp2
            go_ret
            exact ⟨rfl, hrow, (K2.sp [C]).trans hS⟩
      · have hEn : (E == 0) = false := by rw [beq_eq_false_iff_ne]; exact h0
        go_wp2
        go_ret
        exact ⟨rfl, fun h => absurd h h0, K2.sp [C]⟩

end Go.Proofs.YtbcmgogfpboibaaGreatDoor
