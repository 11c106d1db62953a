/-
  The document's Lost, Sort and Name (layer 5), as called. Conditions: that the list's cells hold the numbers.
-/
import Derived.Test.YtbcmgogfpboibaaGreatDoorRepWakes
namespace Go.Proofs.YtbcmgogfpboibaaGreatDoor
open Go.RowKit Plain
set_option linter.unusedVariables false

theorem info_bool : (Tryz.prog.info? 4).map (fun i => (i.zero, i.size, i.bytes)) = some (some (.bool false), 1, 1) := by kernel_rfl
/-- block G holds n yes or no. -/
structure Bools (w : World) (G n : Nat) (f : Nat → Bool) : Prop where
  c : ∀ i, i < n → w.cell? ⟨G, i, none⟩ = some (.bool (f i))
  z : ∀ o, w.frozen? ⟨G, o, none⟩ = false
theorem Bools.new (w : World) (n : Nat) (t : TypeId) : Bools (w.alloc (.cells (madeCells #[.bool false] n) t)) w.heap.size n (fun _ => false) := by
  refine ⟨fun i hi => ?_, fun o => ?_⟩
  · rw [World.cell?_alloc_at _ _ _ _ rfl, ← Array.getElem?_toList, toList_madeCells_one, List.getElem?_replicate, if_pos hi]
  · rw [frozen?_alloc_cells]; simp [World.frozen?]
theorem Bools.set {w : World} {G n : Nat} {f : Nat → Bool} (h : Bools w G n f) (j : Nat) : Bools (w.setCell ⟨G, j, none⟩ (.bool true)) G n (fun i => f i || decide (i = j)) := by
  refine ⟨fun i hi => ?_, fun o => (World.frozen?_setCell _ _ _ _).trans (h.z o)⟩
  by_cases e : i = j
  · subst e; rw [World.cell?_setCell_same _ _ _ (h.c i hi)]; simp
  · rw [cell_off _ _ _ _ _ e, h.c i hi]; simp [e]
theorem Bools.congr {w : World} {G n : Nat} {f g : Nat → Bool} (h : Bools w G n f) (e : ∀ i, i < n → f i = g i) : Bools w G n g := ⟨fun i hi => by rw [← e i hi]; exact h.c i hi, h.z⟩
theorem Bools.kp {w w' : World} {G n : Nat} {f : Nat → Bool} (h : Bools w G n f) (hG : G < w.heap.size) (k : Kp w w') : Bools w' G n f := ⟨fun i hi => k.held (h.c i hi), fun o => (Below.frozen (p := ⟨G, o, none⟩) k hG).trans (h.z o)⟩
/-- which columns are lost. -/
def lsB (l : List Int) (i : Nat) : Bool := decide ((i : Int) ∈ l)
theorem lsB_step (l : List Int) (m : Nat) (hm : m < l.length) (x : Nat) (hx : l.getD m 0 = (x : Int)) (i : Nat) : (lsB (l.take m) i || decide (i = x)) = lsB (l.take (m + 1)) i := by
  unfold lsB
  rw [take_succ_int l m hm, hx, Bool.eq_iff_iff, Bool.or_eq_true, decide_eq_true_iff, decide_eq_true_iff, decide_eq_true_iff, List.mem_append, List.mem_singleton]
  constructor
  · rintro (h | rfl)
    · exact .inl h
    · exact .inr rfl
  · rintro (h | h)
    · exact .inl h
    · exact .inr (by omega)
theorem gn_in {m : Nat} {l : List Int} (h : lsB l m = true) : (gn (m + 1) l).length = (gn m l).length + 1 := by
  unfold lsB at h
  unfold gn; rw [List.range_succ, List.filter_append, List.length_append]
  simp [h]
theorem gn_out {m : Nat} {l : List Int} (h : lsB l m = false) : (gn (m + 1) l).length = (gn m l).length := by
  unfold lsB at h
  unfold gn; rw [List.range_succ, List.filter_append, List.length_append]
  simp [h]
theorem gn_le (m : Nat) (l : List Int) : (gn m l).length ≤ m := by unfold gn; exact Nat.le_trans (List.length_filter_le _ _) (by simp)

set_option maxRecDepth 100000 in
set_option maxHeartbeats 4000000 in
theorem rlost_any (d : Int) (v : Value) (l : List Int) (hl : l.length * 8 ≤ 140737488355328) (w : World) (h : IntsIn w v l) :
    Calls Tryz.prog 23 #[.int .i64 d, v] w fun e w' => ∃ u n, e = .returned (.tuple #[u, .int .i64 n, .int .i64 (srE d l)]) ∧ (srE d l = 0 → ∃ G, u = .slice (some ⟨G, 0, none⟩) (d.toNat + 2) (d.toNat + 2) ∧ w.heap.size ≤ G ∧ G < w'.heap.size ∧ Bools w' G (d.toNat + 2) (lsB l) ∧ n = ((gn (d.toNat + 2) l).length : Nat)) ∧ Kp w w' := by
  by_cases ho : d < 2
  · have e1 := (sr_out (.inl ho) l).1
    rw [e1]
    clear e1
    go_enter Tryz.func23, Tryz.ntmps23
    go_wp2
    go_ret3
    exact ⟨.slice none 0 0, 0, rfl, (fun h => by cases h), Kp.refl _⟩
  by_cases ho2 : 30 < d
  · have e1 := (sr_out (.inr ho2) l).1
    rw [e1]
    have ho' : 2 ≤ d := by omega
    clear e1 ho
    go_enter Tryz.func23, Tryz.ntmps23
    go_wp2
    go_ret3
    exact ⟨.slice none 0 0, 0, rfl, (fun h => by cases h), Kp.refl _⟩
  obtain ⟨k, rfl⟩ : ∃ k : Nat, d = k := ⟨d.toNat, by omega⟩
  have hd1 : 2 ≤ k := by omega
  have hd2 : k ≤ 30 := by omega
  clear ho ho2
  have hmk : ∀ W : World, (Instr.makeSlice 55 (.int .i64 ((k : Int) + 2)) (.int .i64 ((k : Int) + 2))).run Tryz.prog W = .ok (.slice (some ⟨W.heap.size, 0, none⟩) (k + 2) (k + 2)) (W.alloc (.cells (madeCells #[.bool false] (k + 2)) 4)) := fun W =>
    run_make_row' (P := Tryz.prog) 55 4 (.bool false) 1 Tryz.underlying55 info_bool rfl .i64 .i64 (k + 2) (by omega) (by omega) W
  rw [show ((k : Nat) : Int).toNat = k by omega]
  have key : ∀ (a : Option Addr) (b off cap : Nat), v = .slice a l.length cap → (0 < l.length → a = some ⟨b, off, none⟩) → (∀ j, j < l.length → w.cell? ⟨b, off + j, none⟩ = some (.int .i64 (l.getD j 0))) →
      Calls Tryz.prog 23 #[.int .i64 (k : Int), v] w fun e w' => ∃ u n, e = .returned (.tuple #[u, .int .i64 n, .int .i64 (srE (k : Int) l)]) ∧ (srE (k : Int) l = 0 → ∃ G, u = .slice (some ⟨G, 0, none⟩) (k + 2) (k + 2) ∧ w.heap.size ≤ G ∧ G < w'.heap.size ∧ Bools w' G (k + 2) (lsB l) ∧ n = ((gn (k + 2) l).length : Nat)) ∧ Kp w w' := by
    rintro a b off cap rfl ha hc
    clear h
    obtain ⟨E, hE⟩ : ∃ E, E = srE (k : Int) l := ⟨_, rfl⟩
    rw [← hE]
    have HE : Hid (E = srE (k : Int) l) := hE
    clear hE
    have K0 : Kp w (w.alloc (.cells (madeCells #[.bool false] (k + 2)) 4)) := (Kp.refl w).alloc _
    have B0 := Bools.new w (k + 2) 4
    obtain ⟨W0, hW0⟩ : ∃ W0, W0 = w.alloc (.cells (madeCells #[.bool false] (k + 2)) 4) := ⟨_, rfl⟩
    have hz0 : W0.heap.size = w.heap.size + 1 := by rw [hW0]; simp
    rw [← hW0] at K0 B0
    have hm0 := hmk w
    rw [← hW0] at hm0
    clear hmk hW0
    go_enter Tryz.func23, Tryz.ntmps23
    go_wp2
    go_loopw [8] (fun i wr => ∃ m : Nat, m ≤ l.length ∧ i = .int .i64 m ∧ (∀ j, j < m → 0 ≤ l.getD j 0 ∧ l.getD j 0 < (k : Int) + 2) ∧ Bools wr w.heap.size (k + 2) (lsB (l.take m)) ∧ Kp w wr ∧ w.heap.size < wr.heap.size) (fun i _ => l.length - (intOf i).toNat)
    case atStart => exact ⟨0, Nat.zero_le _, rfl, fun j hj => absurd hj (by omega), B0.congr (fun i _ => by simp [lsB]), K0, by omega⟩
    case round =>
      obtain ⟨m, hm, rfl, hA, hBo, hK, hzz⟩ := hrel
      have HA : Hid (∀ j, j < m → 0 ≤ l.getD j 0 ∧ l.getD j 0 < (k : Int) + 2) := hA
      clear hA hm0
      by_cases hlt : m < l.length
      · obtain rfl := ha (by omega)
        have hcm := hK.held (hc m hlt)
        have HN : Hid (¬ (0 ≤ l.getD m 0 ∧ l.getD m 0 < (k : Int) + 2) → srE (k : Int) l = 3) := fun hh => (sr_not (by omega) (by omega) hlt hh).1
        obtain ⟨x, hx⟩ : ∃ x, x = l.getD m 0 := ⟨_, rfl⟩
        have HX : Hid (x = l.getD m 0) := hx
        rw [← hx] at hcm HN
        clear hx hc ha
        by_cases hx0 : x < 0
        · go_wp2
          go_ret3
          have e1 := HN.out (by omega)
          exact ⟨.slice none 0 0, 0, by rw [HE.out, e1]; rfl, (fun h => by rw [HE.out, e1] at h; cases h), hK⟩
        · by_cases hx1 : (k : Int) + 2 ≤ x
          · have hx0' : 0 ≤ x := by omega
            clear hx0
            go_wp2
            go_ret3
            have e1 := HN.out (by omega)
            exact ⟨.slice none 0 0, 0, by rw [HE.out, e1]; rfl, (fun h => by rw [HE.out, e1] at h; cases h), hK⟩
          · obtain ⟨y, rfl⟩ : ∃ y : Nat, x = y := ⟨x.toNat, by omega⟩
            have hy : y < k + 2 := by omega
            clear hx0 hx1
            have hcy := hBo.c y hy
            have hzy := hBo.z y
            have HB2 : Hid (Bools (wr.setCell ⟨w.heap.size, y, none⟩ (.bool true)) w.heap.size (k + 2) (lsB (l.take (m + 1)))) := (hBo.set y).congr (fun i _ => lsB_step l m hlt y HX.out.symm i)
            have HK2 : Hid (Kp w (wr.setCell ⟨w.heap.size, y, none⟩ (.bool true))) := hK.set _ _ (Nat.le_refl _) _
            clear hBo hK
            go_wp2
            go_roundw
            case rel =>
              refine ⟨m + 1, by omega, by go_num, fun j hj => ?_, HB2.out, HK2.out, by simpa [World.setCell] using hzz⟩
              by_cases e : j = m
              · rw [e, ← HX.out]; omega
              · exact HA.out j (by omega)
            case measure => simp [intOf]; omega
      · obtain rfl : m = l.length := by omega
        have hin := sr_in HA.out
        rw [List.take_length] at hBo
        have hall : ∀ x, x ∈ l → 0 ≤ x ∧ x < ((k + 2 : Nat) : Int) := fun x hx => by have := in_all hin x hx; omega
        have hdl : (dst l).length = (gn (k + 2) l).length := by rw [dst_gn (k + 2) l hall, List.length_map]
        have HM : Hid (2 < (gn (k + 2) l).length → srE (k : Int) l = 20) := fun hh => (sr_many (by omega) (by omega) hin (by rw [hdl]; exact hh)).1
        have HO : Hid (¬ 2 < (gn (k + 2) l).length → srE (k : Int) l = 0) := fun hh => (sr_ok (by omega) (by omega) hin (by rw [hdl]; exact hh)).1
        clear hall hdl hin HA hc ha
        go_wp2
        go_loop [9, 10] (fun n i => ∃ m : Nat, m ≤ k + 2 ∧ i = .int .i64 m ∧ n = .int .i64 ((gn m l).length : Nat)) (fun _ i => k + 2 - (intOf i).toNat)
        case atStart => exact ⟨0, Nat.zero_le _, rfl, rfl⟩
        case round =>
          obtain ⟨m, hm, rfl, rfl⟩ := hrel
          have hgl := gn_le m l
          by_cases hlt : m < k + 2
          · have hcm := hBo.c m hlt
            by_cases hb : lsB l m = true
            · have HG : Hid ((gn (m + 1) l).length = (gn m l).length + 1) := gn_in hb
              rw [hb] at hcm
              obtain ⟨n, hn⟩ : ∃ n, n = (gn m l).length := ⟨_, rfl⟩
              rw [← hn] at HG hgl ⊢
              clear hn hb
              go_wp2
              go_round
              case rel => exact ⟨m + 1, by omega, by go_num, by rw [HG.out]; go_num⟩
              case measure => simp [intOf]; omega
            · have hb' : lsB l m = false := by simpa using hb
              have HG : Hid ((gn (m + 1) l).length = (gn m l).length) := gn_out hb'
              rw [hb'] at hcm
              obtain ⟨n, hn⟩ : ∃ n, n = (gn m l).length := ⟨_, rfl⟩
              rw [← hn] at HG hgl ⊢
              clear hn hb hb'
              go_wp2
              go_round
              case rel => exact ⟨m + 1, by omega, by go_num, by rw [HG.out]⟩
              case measure => simp [intOf]; omega
          · obtain rfl : m = k + 2 := by omega
            obtain ⟨n, hn⟩ : ∃ n, n = (gn (k + 2) l).length := ⟨_, rfl⟩
            have HG : Hid (n = (gn (k + 2) l).length) := hn
            rw [← hn] at hgl HM HO ⊢
            clear hn
            by_cases h2 : 2 < n
            · go_wp2
              go_ret3
              have e1 := HM.out h2
              exact ⟨.slice none 0 0, 0, by rw [HE.out, e1]; rfl, (fun h => by rw [HE.out, e1] at h; cases h), hK⟩
            · go_wp2
              go_ret3
              have e1 := HO.out h2
              exact ⟨.slice (some ⟨w.heap.size, 0, none⟩) (k + 2) (k + 2), (n : Int), by rw [HE.out, e1]; rfl, fun _ => ⟨w.heap.size, rfl, Nat.le_refl _, hzz, hBo, by rw [← HG.out]⟩, hK⟩
  cases h with
  | empty a cap h => exact key a 0 0 cap rfl (fun h => absurd h (by simp)) (fun j hj => absurd hj (by simp))
  | some b off cap l h0 h1 h2 hc => exact key _ b off cap rfl (fun _ => rfl) hc

end Go.Proofs.YtbcmgogfpboibaaGreatDoor
