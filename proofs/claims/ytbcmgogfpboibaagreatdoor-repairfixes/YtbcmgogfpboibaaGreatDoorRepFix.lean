/-
  The contracts of repair's New, Fix and Done: all columns of a row, of which some are lost, or the document's error; each kind is counted. Conditions: that the arguments' cells hold what they are said to hold.
-/
import Derived.Test.YtbcmgogfpboibaaGreatDoorRepBlank
namespace Go.Proofs.YtbcmgogfpboibaaGreatDoor
open Go.RowKit Plain Go.BigFrame
set_option linter.unusedVariables false

/-! ### plain -/
/-- the kind, by which columns are lost. -/
def kdN (k : Nat) : List Nat → Nat
  | [] => 0
  | [i] => if i < k then 1 else if i = k then 2 else 3
  | [i, j] => if j = k + 1 then (if i = k then 6 else 5) else if j = k then 4 else 7
  | _ => 0
theorem kdN_lt (k : Nat) (g : List Nat) : kdN k g < 8 := by
  unfold kdN
  split
  · omega
  · split
    · omega
    · split <;> omega
  · split
    · split <;> omega
    · split <;> omega
  · omega
theorem kd_is (k : Nat) (g : List Nat) (hl : g.length ≤ 2) (hr : g.Pairwise (fun x y => x < y)) (hx : ∀ x, x ∈ g → x < k + 2) : kdG (k : Int) (g.map (fun i : Nat => (i : Int))) = (kdN k g : Nat) := by
  unfold kdG
  rw [show (k : Int) + 1 = ((k + 1 : Nat) : Int) by omega, contains_nat, contains_nat, List.length_map]
  match g, hl, hr, hx with
  | [], _, _, _ => rfl
  | [i], _, _, hx =>
    have := hx i (by simp)
    have h1 : i < k ∨ i = k ∨ i = k + 1 := by omega
    rcases h1 with h | rfl | rfl
    · have e1 : ([i].contains k) = false := by simp; omega
      have e2 : ([i].contains (k + 1)) = false := by simp; omega
      rw [e1, e2]; simp [kdN, kdB, h]
    · have e2 : ([i].contains (i + 1)) = false := by simp
      rw [e2]; simp [kdN, kdB]
    · have e1 : ([k + 1].contains k) = false := by simp
      rw [e1]; simp [kdN, kdB, show ¬ k + 1 < k by omega]
  | [i, j], _, hr, hx =>
    have := hx j (by simp)
    have hij : i < j := by simpa using hr
    have h1 : j < k ∨ j = k ∨ j = k + 1 := by omega
    rcases h1 with h | rfl | rfl
    · have e1 : ([i, j].contains k) = false := by simp; omega
      have e2 : ([i, j].contains (k + 1)) = false := by simp; omega
      rw [e1, e2]
      simp [kdN, kdB, show ¬ j = k + 1 by omega, show ¬ j = k by omega]
    · have e1 : ([i, j].contains j) = true := by simp
      have e2 : ([i, j].contains (j + 1)) = false := by simp; omega
      rw [e1, e2]
      simp [kdN, kdB]
    · by_cases h : i = k
      · subst h
        simp [kdN, kdB]
      · have e1 : ([i, k + 1].contains k) = false := by simp; omega
        have e2 : ([i, k + 1].contains (k + 1)) = true := by simp
        rw [e1, e2]
        simp [kdN, kdB, h]
  | _ :: _ :: _ :: _, hl, _, _ => exact absurd hl (by simp)

theorem blk_length (n : Nat) : ∀ (g : List Nat) (L : List ByteArray), (blk n L g).length = L.length
  | [], _ => rfl
  | i :: g, L => by show (blk n (L.set i (zs n)) g).length = _; rw [blk_length n g, List.length_set]
theorem blk_at (n : Nat) : ∀ (g : List Nat) (L : List ByteArray) (i : Nat), i < L.length → (blk n L g).getD i noS = if i ∈ g then zs n else L.getD i noS
  | [], L, i, _ => by simp [blk]
  | j :: g, L, i, h => by
    show (blk n (L.set j (zs n)) g).getD i noS = _
    rw [blk_at n g _ i (by rw [List.length_set]; exact h)]
    by_cases hg : i ∈ g
    · rw [if_pos hg, if_pos (by simp [hg])]
    · rw [if_neg hg]
      by_cases e : i = j
      · subst e; rw [getD_set_eq h, if_pos (by simp)]
      · rw [getD_set_ne (fun e' => e e'.symm), if_neg (by simp [e, hg])]
theorem sz_of_at {n : Nat} {l : List ByteArray} (h : ∀ i, i < l.length → (l.getD i noS).size = n) : Sz n l := all_of_at (P := fun s => s.size = n) h
/-- the length of the columns that are there. -/
def lnS (L : List ByteArray) (g : List Nat) : Nat := ((keptL L L.length g).getD 0 noS).size
theorem blk_sz {L : List ByteArray} {g : List Nat} (h : fitE (keptL L L.length g) = 0) : Sz (lnS L g) (blk (lnS L g) L g) := by
  refine sz_of_at fun i hi => ?_
  rw [blk_length] at hi
  rw [blk_at _ g L i hi]
  split
  · exact zs_size _
  · rename_i hg
    refine fit_all h _ ?_
    unfold keptL keptI
    refine List.mem_map.2 ⟨i, List.mem_filter.2 ⟨List.mem_range.2 hi, by simpa using hg⟩, rfl⟩
theorem ln_le {L : List ByteArray} {g : List Nat} (hg : g.length ≤ 2) (hL : 3 ≤ L.length) (h : fitE (keptL L L.length g) = 0) : lnS L g ≤ 65536 := (fit_is _ h).1 0 (keptL_pos hg hL)
def gnL (L : List ByteArray) (lost : List Int) : List Nat := gn L.length lost
def fxE (L : List ByteArray) (lost : List Int) : Int := if srE ((L.length : Int) - 2) lost = 0 then fitE (keptL L L.length (gnL L lost)) else srE ((L.length : Int) - 2) lost
def fxL (L : List ByteArray) (lost : List Int) : List ByteArray := if fxE L lost = 0 then fixZ (lnS L (gnL L lost)) (L.length - 2) (blk (lnS L (gnL L lost)) L (gnL L lost)) (gnL L lost) else []
def fxC (cnt : Nat → Int) (L : List ByteArray) (lost : List Int) : Nat → Int := if fxE L lost = 0 then up cnt (kdN (L.length - 2) (gnL L lost)) else cnt

theorem sr_zero {d : Int} {l : List Int} (h : srE d l = 0) : 2 ≤ d ∧ d ≤ 30 ∧ inB d l = true ∧ (dst l).length ≤ 2 := by
  unfold srE at h
  by_cases h1 : d < 2 ∨ 30 < d
  · rw [if_pos h1] at h; cases h
  · rw [if_neg h1] at h
    by_cases h2 : inB d l = false
    · rw [if_pos h2] at h; cases h
    · rw [if_neg h2] at h
      by_cases h3 : 2 < (dst l).length
      · rw [if_pos h3] at h; cases h
      · exact ⟨by omega, by omega, by simpa using h2, by omega⟩
theorem in_all {d : Int} {l : List Int} (h : inB d l = true) : ∀ x, x ∈ l → 0 ≤ x ∧ x < d + 2 := fun x hx => of_decide_eq_true (List.all_eq_true.1 h x hx)

/-! ### restore, whatever is lost -/
theorem restore_all {w : World} {R f b C k cap n : Nat} {gv : Value} {L : List ByteArray} {cnt : Nat → Int} (h : RowIn w R f b C k cap gv L cnt) (hk1 : 2 ≤ k) (hk2 : k ≤ 30) (hn : n ≤ 65536) (hs : Sz n L) (hq : ∀ j, j < 8 → 0 ≤ cnt j ∧ cnt j < 4611686018427387904)
    (B : Nat) (hB : C < B ∧ b < B) (g : List Nat) (hg : IntsAt w B gv (g.map (fun i : Nat => (i : Int)))) (hl : g.length ≤ 2) (hr : g.Pairwise (fun x y => x < y)) (hx : ∀ x, x ∈ g → x < k + 2) :
    Calls Tryz.prog 28 #[.pointer (some ⟨R, 0, none⟩), .int .i64 ((kdN k g : Nat) : Int)] w fun e w' => e = .returned (.tuple #[]) ∧ RowIn w' R f b C k cap gv (fixZ n k L g) (up cnt (kdN k g)) ∧ Sp [C, b, f] w w' := by
  match g, hg, hl, hr, hx with
  | [], _, _, _, _ => exact restore0 h hk1 hk2 hn hs hq
  | [i], hg, _, _, hx =>
    have := hx i (by simp)
    have h1 : i < k ∨ i = k ∨ i = k + 1 := by omega
    rcases h1 with h1 | h1 | h1
    · have e1 : kdN k [i] = 1 := by show (if i < k then 1 else if i = k then 2 else 3) = 1; rw [if_pos h1]
      have e2 : fixZ n k L [i] = byPL n k L i := by show (if i ≤ k then byPL n k L i else mkQL n k L) = _; rw [if_pos (by omega)]
      rw [e1, e2]
      exact restore1 h hk1 hk2 hn hs hq B i hB hg (by omega)
    · have e1 : kdN k [i] = 2 := by show (if i < k then 1 else if i = k then 2 else 3) = 2; rw [if_neg (by omega), if_pos h1]
      have e2 : fixZ n k L [i] = byPL n k L i := by show (if i ≤ k then byPL n k L i else mkQL n k L) = _; rw [if_pos (by omega)]
      rw [e1, e2]
      exact restore2 h hk1 hk2 hn hs hq B i hB hg (by omega)
    · have e1 : kdN k [i] = 3 := by show (if i < k then 1 else if i = k then 2 else 3) = 3; rw [if_neg (by omega), if_neg (by omega)]
      have e2 : fixZ n k L [i] = mkQL n k L := by show (if i ≤ k then byPL n k L i else mkQL n k L) = _; rw [if_neg (by omega)]
      rw [e1, e2]
      exact restore3 h hk1 hk2 hn hs hq
  | [i, j], hg, _, hr, hx =>
    have := hx j (by simp)
    have hij : i < j := by simpa using hr
    by_cases h1 : j = k + 1
    · have e2 : fixZ n k L [i, j] = mkQL n k (byPL n k L i) := by show (if j = k + 1 then mkQL n k (byPL n k L i) else if j = k then byPL n k (byQL n k L i) k else byBL n k L i j) = _; rw [if_pos h1]
      rw [e2]
      by_cases h2 : i = k
      · have e1 : kdN k [i, j] = 6 := by show (if j = k + 1 then (if i = k then 6 else 5) else if j = k then 4 else 7) = 6; rw [if_pos h1, if_pos h2]
        rw [e1]
        exact restore6 h hk1 hk2 hn hs hq B i j hB hg (by omega)
      · have e1 : kdN k [i, j] = 5 := by show (if j = k + 1 then (if i = k then 6 else 5) else if j = k then 4 else 7) = 5; rw [if_pos h1, if_neg h2]
        rw [e1]
        exact restore5 h hk1 hk2 hn hs hq B i j hB hg (by omega)
    · by_cases h2 : j = k
      · have e1 : kdN k [i, j] = 4 := by show (if j = k + 1 then (if i = k then 6 else 5) else if j = k then 4 else 7) = 4; rw [if_neg h1, if_pos h2]
        have e2 : fixZ n k L [i, j] = byPL n k (byQL n k L i) j := by show (if j = k + 1 then mkQL n k (byPL n k L i) else if j = k then byPL n k (byQL n k L i) k else byBL n k L i j) = _; rw [if_neg h1, if_pos h2, h2]
        rw [e1, e2]
        exact restore4 h hk1 hk2 hn hs hq B i j hB hg (by omega) (by omega)
      · have e1 : kdN k [i, j] = 7 := by show (if j = k + 1 then (if i = k then 6 else 5) else if j = k then 4 else 7) = 7; rw [if_neg h1, if_neg h2]
        have e2 : fixZ n k L [i, j] = byBL n k L i j := by show (if j = k + 1 then mkQL n k (byPL n k L i) else if j = k then byPL n k (byQL n k L i) k else byBL n k L i j) = _; rw [if_neg h1, if_neg h2]
        rw [e1, e2]
        exact restore7 h hk1 hk2 hn hs hq B i j hB hg (by omega) (by omega) (by omega)
  | _ :: _ :: _ :: _, _, hl, _, _ => exact absurd hl (by simp)

/-! ### New -/
theorem fixer_new {w1 : World} {b : Nat} (hF : FieldIn w1 b 0 0 0 0) (t : TypeId) : FixIn (w1.alloc (.cells #[.pointer (some ⟨b, 0, none⟩), .int .i64 0, .int .i64 0, .int .i64 0, .int .i64 0, .int .i64 0, .int .i64 0, .int .i64 0, .int .i64 0] t)) w1.heap.size b (fun _ => 0) := by
  have hb := hF.hb
  refine ⟨by simp, by simp; omega, by omega, by rw [World.cell?_alloc_at _ _ _ _ rfl]; rfl, fun j hj => ?_, fun o => ?_, .inl ?_⟩
  · rw [World.cell?_alloc_at _ _ _ _ rfl]
    have h : j = 0 ∨ j = 1 ∨ j = 2 ∨ j = 3 ∨ j = 4 ∨ j = 5 ∨ j = 6 ∨ j = 7 := by omega
    rcases h with rfl | rfl | rfl | rfl | rfl | rfl | rfl | rfl <;> rfl
  · rw [frozen?_alloc_cells]; simp [World.frozen?]
  · exact FieldIn.of_block hF (Below.heap_alloc _ _ _ hb) (by simp)
theorem fnew_any (w : World) : Calls Tryz.prog 15 #[] w fun e w' => ∃ f b, e = .returned (.pointer (some ⟨f, 0, none⟩)) ∧ FixIn w' f b (fun _ => 0) ∧ Kp w w' ∧ w.heap.size ≤ f ∧ w.heap.size ≤ b := by
  go_enter Tryz.func15, Tryz.ntmps15
  go_wp2_with fail
  refine (new_any w).mono ?_; rintro e w1 ⟨rfl, hw1⟩
  have hF := new_field w 100
  rw [← hw1] at hF
  have K1 : Kp w w1 := by rw [hw1]; exact (Kp.refl w).alloc _
  have hsz : w1.heap.size = w.heap.size + 1 := by rw [hw1]; simp
  clear hw1
  have H := fixer_new hF 69
  rw [hsz] at H
  go_wp2
  go_ret
  exact ⟨w.heap.size + 1, w.heap.size, rfl, H, K1.alloc _, by omega, by omega⟩

/-! ### Fix -/
theorem fx_not {L : List ByteArray} {lost : List Int} (h : srE ((L.length : Int) - 2) lost ≠ 0) : fxE L lost = srE ((L.length : Int) - 2) lost ∧ fxL L lost = [] ∧ ∀ cnt, fxC cnt L lost = cnt := by
  have e : fxE L lost = srE ((L.length : Int) - 2) lost := by unfold fxE; rw [if_neg h]
  refine ⟨e, by unfold fxL; rw [e, if_neg h], fun cnt => by unfold fxC; rw [e, if_neg h]⟩
theorem fx_un {L : List ByteArray} {lost : List Int} (h : srE ((L.length : Int) - 2) lost = 0) : fxE L lost = fitE (keptL L L.length (gnL L lost)) := by unfold fxE; rw [if_pos h]
theorem StrsIn.slice {w : World} {v : Value} {l : List ByteArray} (h : StrsIn w v l) : ∃ a cap, v = .slice a l.length cap ∧ l.length ≤ cap ∧ cap ≤ maxLen := by
  cases h with
  | empty a cap h => exact ⟨a, cap, rfl, by simp, h⟩
  | some b off cap l h0 h1 h2 hc => exact ⟨_, cap, rfl, h1, h2⟩
set_option maxHeartbeats 4000000 in
theorem fix_bad (w : World) (f : Nat) (cv lv : Value) (L : List ByteArray) (lost : List Int) (hL : StrsIn w cv L) (hI : IntsIn w lv lost) (hlo : lost.length * 8 ≤ 140737488355328) (hE : srE ((L.length : Int) - 2) lost ≠ 0) :
    Calls Tryz.prog 16 #[.pointer (some ⟨f, 0, none⟩), cv, lv] w fun e w' => e = .returned (.tuple #[.slice none 0 0, .int .i64 (srE ((L.length : Int) - 2) lost)]) ∧ Kp w w' := by
  obtain ⟨a, cap, rfl, h1, h2⟩ := hL.slice
  have hS := sort_any ((L.length : Int) - 2) lv lost hlo w hI
  obtain ⟨E, hE'⟩ : ∃ E, E = srE ((L.length : Int) - 2) lost := ⟨_, rfl⟩
  rw [← hE'] at hS hE ⊢
  obtain ⟨K, hK'⟩ : ∃ E, E = srK ((L.length : Int) - 2) lost := ⟨_, rfl⟩
  rw [← hK'] at hS
  unfold maxLen at h2
  have hEn : (E == 0) = false := by rw [beq_eq_false_iff_ne]; exact hE
  obtain ⟨n, hn⟩ : ∃ n, n = L.length := ⟨_, rfl⟩
  rw [← hn] at hS h1 ⊢
  clear hE' hK' hL hI hn
  go_enter Tryz.func16, Tryz.ntmps16
  go_wp2_with fail
  refine hS.mono ?_; rintro e w1 ⟨rfl, k1⟩
  go_wp2
  go_ret2
  exact ⟨rfl, k1⟩

theorem clone_any {w : World} {v : Value} {L : List ByteArray} (h : StrsIn w v L) (h0 : 0 < L.length) (hl : L.length ≤ 32) : Calls Tryz.prog 26 #[v] w fun e w' => ∃ C cap, e = .returned (.slice (some ⟨C, 0, none⟩) L.length cap) ∧ L.length ≤ cap ∧ cap ≤ maxLen ∧ w.heap.size ≤ C ∧ ColIn w' C L ∧ Kp w w' := by
  cases h with
  | empty a cap h => exact absurd h0 (by simp)
  | some b off cap l h0 h1 h2 hc =>
    refine (Tryz.slices_Clone_string b off L.length cap L w (Nat.le_refl _) (by omega) hc).mono ?_
    rintro e w' ⟨v', rfl, ho, _, k⟩
    rw [List.take_length] at ho
    rcases ho.2 with ⟨_, hz⟩ | ⟨C, cp, cur, rfl, hC, hcur, r1, r2, r3, r4⟩
    · omega
    · exact ⟨C, cp, rfl, r1, r2, hC, ⟨(Array.getElem?_eq_some_iff.1 hcur).1, fun i hi => own_at ho rfl i hi, fun o => by simp [World.frozen?, hcur]⟩, k⟩

theorem row_new {w3 : World} {f b C cap k : Nat} {gv : Value} {L : List ByteArray} {cnt : Nat → Int} (hf : FixIn w3 f b cnt) (hc : ColIn w3 C L) (hl : L.length = k + 2) (h1 : k + 2 ≤ cap) (h2 : cap ≤ maxLen) (n4 : C ≠ f) (n5 : C ≠ b) (t : TypeId) :
    RowIn (w3.alloc (.cells #[.pointer (some ⟨f, 0, none⟩), .int .i64 (k : Int), .slice (some ⟨C, 0, none⟩) (k + 2) cap, gv] t)) w3.heap.size f b C k cap gv L cnt := by
  have K : Kp w3 (w3.alloc (.cells #[.pointer (some ⟨f, 0, none⟩), .int .i64 (k : Int), .slice (some ⟨C, 0, none⟩) (k + 2) cap, gv] t)) := (Kp.refl w3).alloc _
  have := hc.hC
  have := hf.hf
  have := hf.hb
  exact ⟨by simp, by rw [World.cell?_alloc_at _ _ _ _ rfl]; rfl, by rw [World.cell?_alloc_at _ _ _ _ rfl]; rfl, by rw [World.cell?_alloc_at _ _ _ _ rfl]; rfl, by rw [World.cell?_alloc_at _ _ _ _ rfl]; rfl, h1, h2, hl, hc.sp (K.sp []) (by simp), hf.kp K, by omega, by omega, by omega, n4, n5⟩

set_option maxRecDepth 100000 in
set_option maxHeartbeats 8000000 in
theorem fix_good (w : World) (f b k : Nat) (cnt : Nat → Int) (h : FixIn w f b cnt) (hq : ∀ j, j < 8 → 0 ≤ cnt j ∧ cnt j < 4611686018427387904) (cv lv : Value) (L : List ByteArray) (lost : List Int) (hL : StrsIn w cv L) (hz : ∀ i, i < L.length → (L.getD i noS).size ≤ maxLen) (hI : IntsIn w lv lost) (hlo : lost.length * 8 ≤ 140737488355328) (hk : L.length = k + 2) (hE : srE (k : Int) lost = 0) :
    Calls Tryz.prog 16 #[.pointer (some ⟨f, 0, none⟩), cv, lv] w fun e w' => ∃ v, e = .returned (.tuple #[v, .int .i64 (fxE L lost)]) ∧ StrsIn w' v (fxL L lost) ∧ FixIn w' f b (fxC cnt L lost) ∧ Sp [f, b] w w' := by
  obtain ⟨hk1, hk2, hin, hl2⟩ := sr_zero hE
  have hdk : (L.length : Int) - 2 = (k : Int) := by omega
  have hall : ∀ x, x ∈ lost → 0 ≤ x ∧ x < ((k + 2 : Nat) : Int) := fun x hx => by have := in_all hin x hx; omega
  have hdst := dst_gn (k + 2) lost hall
  have hgg : gnL L lost = gn (k + 2) lost := by unfold gnL; rw [hk]
  obtain ⟨g, hg'⟩ : ∃ g, g = gn (k + 2) lost := ⟨_, rfl⟩
  have hgl : g.length ≤ 2 := by rw [hdst, List.length_map, ← hg'] at hl2; exact hl2
  have hgr : g.Pairwise (fun x y => x < y) := by rw [hg']; exact gn_lt _ _
  have hgx : ∀ x, x ∈ g → x < k + 2 := fun x hx => by rw [hg'] at hx; exact ((gn_mem _ _ x).1 hx).1
  have hkd : srK (k : Int) lost = (kdN k g : Nat) := by
    unfold srK; rw [if_pos hE, hdst, ← hg']; exact kd_is k g hgl hgr hgx
  have hS := sort_any (k : Int) lv lost hlo w hI
  rw [hkd, hE] at hS
  have hfx : fxE L lost = fitE (keptL L (k + 2) g) := by rw [fx_un (by rw [hdk]; exact hE), hk, hgg, hg']
  have hln : lnS L g = ((keptL L (k + 2) g).getD 0 noS).size := by unfold lnS; rw [hk]
  have hfl : fitE (keptL L (k + 2) g) = 0 → fxL L lost = fixZ (lnS L g) k (blk (lnS L g) L g) g ∧ (∀ c, fxC c L lost = up c (kdN k g)) ∧ Sz (lnS L g) (blk (lnS L g) L g) ∧ lnS L g ≤ 65536 := fun h0 => by
    refine ⟨by unfold fxL; rw [hfx, if_pos h0, hgg, ← hg', hk]; rfl, fun c => by unfold fxC; rw [hfx, if_pos h0, hgg, ← hg', hk]; rfl, blk_sz (by rw [hk]; exact h0), ln_le hgl (by omega) (by rw [hk]; exact h0)⟩
  have hfn : fitE (keptL L (k + 2) g) ≠ 0 → fxL L lost = [] ∧ ∀ c, fxC c L lost = c := fun h0 => ⟨by unfold fxL; rw [hfx, if_neg h0], fun c => by unfold fxC; rw [hfx, if_neg h0]⟩
  rw [hfx]
  have hfr := fit_range (keptL L (k + 2) g)
  have hdist := fun (w' : World) (q : Kp w w') => distinct_any lv lost hlo w' (hI.kept q)
  rw [hdst, ← hg'] at hdist
  have hclone := fun (w' : World) (q : Kp w w') => clone_any (hL.kept q) (by omega) (by omega)
  rw [hk] at hclone
  obtain ⟨a, cap, rfl, h1, h2⟩ := hL.slice
  rw [hk] at h1 hclone ⊢
  unfold maxLen at h2
  obtain ⟨E, hE'⟩ : ∃ E, E = fitE (keptL L (k + 2) g) := ⟨_, rfl⟩
  rw [← hE'] at hfl hfn hfr ⊢
  have HB : Hid (∀ {w' : World} {R C cap : Nat} {gv : Value} (h : RowIn w' R f b C k cap gv L cnt) (B : Nat) (hB : C < B ∧ B ≤ w'.heap.size) (hg : IntsAt w' B gv (g.map (fun i : Nat => (i : Int)))), Calls Tryz.prog 27 #[.pointer (some ⟨R, 0, none⟩)] w' fun e w'' => e = .returned (.int .i64 E) ∧ (E = 0 → RowIn w'' R f b C k cap gv (blk (lnS L g) L g) cnt) ∧ Sp [C] w' w'') := fun {w'} {R} {C} {cap} {gv} h B hB hg => by
    have H := blank_any h (by omega) (by omega) hz B hB g hg hgl hgx
    rw [← hE', ← hln] at H
    exact H
  have HRS : Hid (∀ {w' : World} {R C cap : Nat} {gv : Value} (h : RowIn w' R f b C k cap gv (blk (lnS L g) L g) cnt) (B : Nat) (hB : C < B ∧ b < B) (hg : IntsAt w' B gv (g.map (fun i : Nat => (i : Int)))), E = 0 → Calls Tryz.prog 28 #[.pointer (some ⟨R, 0, none⟩), .int .i64 ((kdN k g : Nat) : Int)] w' fun e w'' => e = .returned (.tuple #[]) ∧ RowIn w'' R f b C k cap gv (fixZ (lnS L g) k (blk (lnS L g) L g) g) (up cnt (kdN k g)) ∧ Sp [C, b, f] w' w'') := fun {w'} {R} {C} {cap} {gv} h B hB hg h0 =>
    restore_all h (by omega) (by omega) (hfl h0).2.2.2 (hfl h0).2.2.1 hq B hB g hg hgl hgr hgx
  have HL : Hid (E = 0 → fxL L lost = fixZ (lnS L g) k (blk (lnS L g) L g) g ∧ (∀ c, fxC c L lost = up c (kdN k g))) := fun h0 => ⟨(hfl h0).1, (hfl h0).2.1⟩
  have HN : Hid (E ≠ 0 → fxL L lost = [] ∧ ∀ c, fxC c L lost = c) := hfn
  have HF : Hid (FixIn w f b cnt) := h
  have HLK : Hid (L.length = k + 2) := hk
  have hk1' : 2 ≤ k := by omega
  have hk2' : k ≤ 30 := by omega
  obtain ⟨kd, hkd'⟩ : ∃ kd, kd = kdN k g := ⟨_, rfl⟩
  rw [← hkd'] at hS HRS HL
  have hkd8 : kd < 8 := by rw [hkd']; exact kdN_lt k g
  clear hfl hfn hfx hln hgg hg' hdst hall hin hl2 hE hdk hgl hgr hgx hkd hL hI hE' h hq hz hk hkd' hk1 hk2
  go_enter Tryz.func16, Tryz.ntmps16
  go_wp2_with fail
  refine hS.mono ?_; rintro e w1 ⟨rfl, k1⟩
  clear hS
  go_wp2_with fail
  refine (hclone w1 k1).mono ?_; rintro e w2 ⟨C, cp, rfl, c1, c2, hC, hcol, k2⟩
  clear hclone
  go_wp2_with fail
  refine (hdist w2 (k1.trans k2)).mono ?_; rintro e w3 ⟨gv, rfl, hg, k3⟩
  clear hdist
  have hcol3 := hcol.sp (k3.sp []) (by simp)
  have hF3 := HF.out.kp ((k1.trans k2).trans k3)
  have hn4 : C ≠ f := by have := HF.out.hf; have := k1.size; omega
  have hn5 : C ≠ b := by have := HF.out.hb; have := k1.size; omega
  have hb2 : b < w2.heap.size := by have := HF.out.hb; have := k1.size; have := k2.size; omega
  have hf2 : f < w2.heap.size := by have := HF.out.hf; have := k1.size; have := k2.size; omega
  have hC2 := hcol.hC
  have hrow := row_new (gv := gv) hF3 hcol3 HLK.out c1 c2 hn4 hn5 71
  have hgs : ∃ a cap, gv = .slice a g.length cap := by have := hg.slice; rwa [List.length_map] at this
  have kal : Kp w3 (w3.alloc (.cells #[.pointer (some ⟨f, 0, none⟩), .int .i64 (k : Int), .slice (some ⟨C, 0, none⟩) (k + 2) cp, gv] 71)) := (Kp.refl w3).alloc _
  have hg4 := hg.kept kal
  have HB1 := HB.out hrow w2.heap.size ⟨hC2, by have := k3.size; have := kal.size; omega⟩ hg4
  have K4 := ((k1.trans k2).trans k3).trans kal
  have hCw : w.heap.size ≤ C := by have := k1.size; omega
  have HC : Hid (w.heap.size ≤ C) := hCw
  have HF4 : Hid (FixIn _ f b cnt) := HF.out.kp K4
  clear HB HF hcol hcol3 hF3 hrow hg k1 k2 k3 kal hC hCw
  obtain ⟨ga, gc, rfl⟩ := hgs
  go_wp2_with fail
  refine HB1.mono ?_; rintro e w5 ⟨rfl, hr5, s5⟩
  have HG5 := hg4.sp s5 (by simpa using hC2)
  have K5 : Sp [C, b, f] w w5 := (K4.sp [C, b, f]).trans (s5.mono (by simp))
  have HF5 : Hid (FixIn w5 f b cnt) := HF4.out.sp s5 (by simpa using fun e => hn4 e.symm) (by simpa using fun e => hn5 e.symm)
  clear HB1 hg4 s5 K4 HF4 hn4 hn5
  by_cases h0 : E = 0
  · have hr := hr5 h0
    have HR1 := HRS.out hr w2.heap.size ⟨hC2, hb2⟩ HG5 h0
    obtain ⟨l1, l2⟩ := HL.out h0
    subst h0
    have HL1 : Hid (fxL L lost = fixZ (lnS L g) k (blk (lnS L g) L g) g ∧ fxC cnt L lost = up cnt kd) := ⟨l1, l2 cnt⟩
    clear HRS hr5 HG5 l1 l2 HN HL hr hfr
    go_wp2_with fail
    refine HR1.mono ?_; rintro e w6 ⟨rfl, h6, s6⟩
    have e6 := h6.r2
    have H6 : Hid (RowIn w6 w3.heap.size f b C k cp (.slice ga g.length gc) (fixZ (lnS L g) k (blk (lnS L g) L g) g) (up cnt kd)) := h6
    have HS6 : Hid (Sp [C, b, f] w w6) := K5.trans s6
    clear h6 s6 K5 HR1
    go_wp2
    go_ret2
    refine ⟨.slice (some ⟨C, 0, none⟩) (k + 2) cp, rfl, ?_, ?_, ?_⟩
    · rw [HL1.out.1]
      have H := H6.out.cols.strs (k + 2) cp (by omega) (by rw [H6.out.len]; omega) c1 c2
      rwa [← H6.out.len, List.take_length, H6.out.len] at H
    · rw [HL1.out.2]; exact H6.out.fix
    · exact ⟨HS6.out.os, HS6.out.tape, HS6.out.output, HS6.out.size, fun i hi hn => HS6.out.block i hi (by have := HC.out; simp at hn ⊢; omega)⟩
  · have hEn : (E == 0) = false := by rw [beq_eq_false_iff_ne]; exact h0
    obtain ⟨n1, n2⟩ := HN.out h0
    have HN1 : Hid (fxL L lost = [] ∧ fxC cnt L lost = cnt) := ⟨n1, n2 cnt⟩
    have HS6 : Hid (Sp [C, b, f] w w5) := K5
    clear n1 n2 HRS HL HN HG5 hr5 K5
    go_wp2
    go_ret2
    refine ⟨.slice none 0 0, rfl, ?_, ?_, ?_⟩
    · rw [HN1.out.1]; exact .empty none 0 (by unfold maxLen; omega)
    · rw [HN1.out.2]; exact HF5.out
    · exact ⟨HS6.out.os, HS6.out.tape, HS6.out.output, HS6.out.size, fun i hi hn => HS6.out.block i hi (by have := HC.out; simp at hn ⊢; omega)⟩
/-- Fix, whatever it is handed. -/
theorem fix_any (w : World) (f b : Nat) (cnt : Nat → Int) (h : FixIn w f b cnt) (hq : ∀ j, j < 8 → 0 ≤ cnt j ∧ cnt j < 4611686018427387904) (cv lv : Value) (L : List ByteArray) (lost : List Int) (hL : StrsIn w cv L) (hz : ∀ i, i < L.length → (L.getD i noS).size ≤ maxLen) (hI : IntsIn w lv lost) (hlo : lost.length * 8 ≤ 140737488355328) :
    Calls Tryz.prog 16 #[.pointer (some ⟨f, 0, none⟩), cv, lv] w fun e w' => ∃ v, e = .returned (.tuple #[v, .int .i64 (fxE L lost)]) ∧ StrsIn w' v (fxL L lost) ∧ FixIn w' f b (fxC cnt L lost) ∧ Sp [f, b] w w' := by
  by_cases hE : srE ((L.length : Int) - 2) lost = 0
  · obtain ⟨hk1, hk2, _, _⟩ := sr_zero hE
    obtain ⟨k, hk⟩ : ∃ k, L.length = k + 2 := ⟨L.length - 2, by omega⟩
    exact fix_good w f b k cnt h hq cv lv L lost hL hz hI hlo hk (by rw [hk] at hE; rwa [show ((k + 2 : Nat) : Int) - 2 = (k : Int) by omega] at hE)
  · obtain ⟨e1, e2, e3⟩ := fx_not hE
    refine (fix_bad w f cv lv L lost hL hI hlo hE).mono ?_
    rintro e w' ⟨rfl, k⟩
    rw [e1, e2, e3]
    exact ⟨_, rfl, .empty none 0 (by unfold maxLen; omega), h.kp k, k.sp [f, b]⟩

end Go.Proofs.YtbcmgogfpboibaaGreatDoor
