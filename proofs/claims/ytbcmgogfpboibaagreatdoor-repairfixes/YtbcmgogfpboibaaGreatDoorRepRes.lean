/-
  The contract of restore: each kind brings its columns back, and is counted. Conditions: that the row's cells and the lost ones' numbers hold what they are said to hold.
-/
import Derived.Test.YtbcmgogfpboibaaGreatDoorRepBoth
namespace Go.Proofs.YtbcmgogfpboibaaGreatDoor
open Go.RowKit Plain Go.BigFrame
set_option linter.unusedVariables false

theorem IntsAt.one {w : World} {B : Nat} {v : Value} {x : Int} (h : IntsAt w B v [x]) : ∃ G cap, v = .slice (Option.some ⟨G, 0, none⟩) 1 cap ∧ B ≤ G ∧ w.cell? ⟨G, 0, none⟩ = Option.some (.int .i64 x) := by
  obtain ⟨l, hl⟩ : ∃ l, l = [x] := ⟨_, rfl⟩
  rw [← hl] at h
  cases h with
  | empty a cap h => cases hl
  | some g cap l h0 h1 h2 hB hc =>
    subst hl
    exact ⟨g, cap, rfl, hB, hc 0 (by simp)⟩
theorem IntsAt.two {w : World} {B : Nat} {v : Value} {x y : Int} (h : IntsAt w B v [x, y]) : ∃ G cap, v = .slice (Option.some ⟨G, 0, none⟩) 2 cap ∧ B ≤ G ∧ w.cell? ⟨G, 0, none⟩ = Option.some (.int .i64 x) ∧ w.cell? ⟨G, 1, none⟩ = Option.some (.int .i64 y) := by
  obtain ⟨l, hl⟩ : ∃ l, l = [x, y] := ⟨_, rfl⟩
  rw [← hl] at h
  cases h with
  | empty a cap h => cases hl
  | some g cap l h0 h1 h2 hB hc =>
    subst hl
    exact ⟨g, cap, rfl, hB, hc 0 (by simp), hc 1 (by simp)⟩
/-- what is kept where columns, the field and the counts are turned. -/
theorem Sp.gone {T : List Nat} {w w' : World} {B G o : Nat} {v : Value} (k : Sp T w w') (hT : ∀ t, t ∈ T → t < B) (hG : B ≤ G) (hc : w.cell? ⟨G, o, none⟩ = some v) : w'.cell? ⟨G, o, none⟩ = some v := k.held hc (fun ht => by have := hT G ht; omega)
theorem byPL_sz {n k : Nat} {L : List ByteArray} (hs : Sz n L) (i : Nat) : Sz n (byPL n k L i) := hs.set i (lkP_size hs)
theorem byQL_sz {n k : Nat} {L : List ByteArray} (hs : Sz n L) (hl : k + 1 < L.length) (i : Nat) : Sz n (byQL n k L i) := hs.set i (by rw [dvS_size]; exact lkQ_size hs hl)

set_option maxRecDepth 100000 in
set_option maxHeartbeats 4000000 in
theorem restore0 {w : World} {R f b C k cap n : Nat} {gv : Value} {L : List ByteArray} {cnt : Nat → Int} (h : RowIn w R f b C k cap gv L cnt) (hk1 : 2 ≤ k) (hk2 : k ≤ 30) (hn : n ≤ 65536) (hs : Sz n L) (hq : ∀ j, j < 8 → 0 ≤ cnt j ∧ cnt j < 4611686018427387904) :
    Calls Tryz.prog 28 #[.pointer (some ⟨R, 0, none⟩), .int .i64 0] w fun e w' => e = .returned (.tuple #[]) ∧ RowIn w' R f b C k cap gv (L) (up cnt 0) ∧ Sp [C, b, f] w w' := by
  obtain ⟨q1, q2⟩ := hq 0 (by omega)
  clear hq
  go_enter Tryz.func28, Tryz.ntmps28
  have z0 := h.r0
  have zc : _ = some (Value.int .i64 (cnt 0)) := h.fix.c 0 (by omega)
  have zz := h.fix.z (1 + 0)
  have HR : Hid (RowIn _ R f b C k cap _ _ (up cnt 0)) := h.count 0 (by omega)
  have HS := Sp.refl [C, b, f] w
  clear h
  simp only [Nat.reduceAdd] at zc zz HR
  go_wp2_with fail
  refine (count_add ⟨f, 1, none⟩ (cnt 0) 1 (by omega) (by omega) (by omega) (by omega) _ zc zz).mono ?_; rintro e w9 ⟨rfl, rfl⟩
  go_wp2
  go_end0
  exact ⟨rfl, HR.out, HS.set f 1 (by simp) _⟩

set_option maxRecDepth 100000 in
set_option maxHeartbeats 4000000 in
theorem restore1 {w : World} {R f b C k cap n : Nat} {gv : Value} {L : List ByteArray} {cnt : Nat → Int} (h : RowIn w R f b C k cap gv L cnt) (hk1 : 2 ≤ k) (hk2 : k ≤ 30) (hn : n ≤ 65536) (hs : Sz n L) (hq : ∀ j, j < 8 → 0 ≤ cnt j ∧ cnt j < 4611686018427387904) (B i : Nat) (hB : C < B ∧ b < B) (hg : IntsAt w B gv [(i : Int)]) (hi : i < k + 2) :
    Calls Tryz.prog 28 #[.pointer (some ⟨R, 0, none⟩), .int .i64 1] w fun e w' => e = .returned (.tuple #[]) ∧ RowIn w' R f b C k cap gv (byPL n k L i) (up cnt 1) ∧ Sp [C, b, f] w w' := by
  obtain ⟨q1, q2⟩ := hq 1 (by omega)
  clear hq
  obtain ⟨G, gc, rfl, hG, g0⟩ := hg.one
  have e3 := h.r3
  have hP := byP_any h hk1 hk2 hn hs i hi
  clear h hs hg
  go_enter Tryz.func28, Tryz.ntmps28
  go_wp2_with fail
  refine hP.mono ?_; rintro e w1 ⟨rfl, h1, s1⟩
  clear hP e3 g0
  have z0 := h1.r0
  have zc : _ = some (Value.int .i64 (cnt 1)) := h1.fix.c 1 (by omega)
  have zz := h1.fix.z (1 + 1)
  have HR : Hid (RowIn _ R f b C k cap _ _ (up cnt 1)) := h1.count 1 (by omega)
  have HS := s1.mono (T' := [C, b, f]) (by simp)
  clear h1
  simp only [Nat.reduceAdd] at zc zz HR
  go_wp2_with fail
  refine (count_add ⟨f, 2, none⟩ (cnt 1) 1 (by omega) (by omega) (by omega) (by omega) _ zc zz).mono ?_; rintro e w9 ⟨rfl, rfl⟩
  go_wp2
  go_end0
  exact ⟨rfl, HR.out, HS.set f 2 (by simp) _⟩

set_option maxRecDepth 100000 in
set_option maxHeartbeats 4000000 in
theorem restore2 {w : World} {R f b C k cap n : Nat} {gv : Value} {L : List ByteArray} {cnt : Nat → Int} (h : RowIn w R f b C k cap gv L cnt) (hk1 : 2 ≤ k) (hk2 : k ≤ 30) (hn : n ≤ 65536) (hs : Sz n L) (hq : ∀ j, j < 8 → 0 ≤ cnt j ∧ cnt j < 4611686018427387904) (B i : Nat) (hB : C < B ∧ b < B) (hg : IntsAt w B gv [(i : Int)]) (hi : i < k + 2) :
    Calls Tryz.prog 28 #[.pointer (some ⟨R, 0, none⟩), .int .i64 2] w fun e w' => e = .returned (.tuple #[]) ∧ RowIn w' R f b C k cap gv (byPL n k L i) (up cnt 2) ∧ Sp [C, b, f] w w' := by
  obtain ⟨q1, q2⟩ := hq 2 (by omega)
  clear hq
  obtain ⟨G, gc, rfl, hG, g0⟩ := hg.one
  have e3 := h.r3
  have hP := byP_any h hk1 hk2 hn hs i hi
  clear h hs hg
  go_enter Tryz.func28, Tryz.ntmps28
  go_wp2_with fail
  refine hP.mono ?_; rintro e w1 ⟨rfl, h1, s1⟩
  clear hP e3 g0
  have z0 := h1.r0
  have zc : _ = some (Value.int .i64 (cnt 2)) := h1.fix.c 2 (by omega)
  have zz := h1.fix.z (1 + 2)
  have HR : Hid (RowIn _ R f b C k cap _ _ (up cnt 2)) := h1.count 2 (by omega)
  have HS := s1.mono (T' := [C, b, f]) (by simp)
  clear h1
  simp only [Nat.reduceAdd] at zc zz HR
  go_wp2_with fail
  refine (count_add ⟨f, 3, none⟩ (cnt 2) 1 (by omega) (by omega) (by omega) (by omega) _ zc zz).mono ?_; rintro e w9 ⟨rfl, rfl⟩
  go_wp2
  go_end0
  exact ⟨rfl, HR.out, HS.set f 3 (by simp) _⟩

set_option maxRecDepth 100000 in
set_option maxHeartbeats 4000000 in
theorem restore3 {w : World} {R f b C k cap n : Nat} {gv : Value} {L : List ByteArray} {cnt : Nat → Int} (h : RowIn w R f b C k cap gv L cnt) (hk1 : 2 ≤ k) (hk2 : k ≤ 30) (hn : n ≤ 65536) (hs : Sz n L) (hq : ∀ j, j < 8 → 0 ≤ cnt j ∧ cnt j < 4611686018427387904) :
    Calls Tryz.prog 28 #[.pointer (some ⟨R, 0, none⟩), .int .i64 3] w fun e w' => e = .returned (.tuple #[]) ∧ RowIn w' R f b C k cap gv (mkQL n k L) (up cnt 3) ∧ Sp [C, b, f] w w' := by
  obtain ⟨q1, q2⟩ := hq 3 (by omega)
  clear hq
  have hQ := makeQ_any h hk1 hk2 hn hs
  clear h hs
  go_enter Tryz.func28, Tryz.ntmps28
  go_wp2_with fail
  refine hQ.mono ?_; rintro e w1 ⟨rfl, h1, s1⟩
  clear hQ
  have z0 := h1.r0
  have zc : _ = some (Value.int .i64 (cnt 3)) := h1.fix.c 3 (by omega)
  have zz := h1.fix.z (1 + 3)
  have HR : Hid (RowIn _ R f b C k cap _ _ (up cnt 3)) := h1.count 3 (by omega)
  have HS := s1.mono (T' := [C, b, f]) (by simp)
  clear h1
  simp only [Nat.reduceAdd] at zc zz HR
  go_wp2_with fail
  refine (count_add ⟨f, 4, none⟩ (cnt 3) 1 (by omega) (by omega) (by omega) (by omega) _ zc zz).mono ?_; rintro e w9 ⟨rfl, rfl⟩
  go_wp2
  go_end0
  exact ⟨rfl, HR.out, HS.set f 4 (by simp) _⟩

set_option maxRecDepth 100000 in
set_option maxHeartbeats 4000000 in
theorem restore4 {w : World} {R f b C k cap n : Nat} {gv : Value} {L : List ByteArray} {cnt : Nat → Int} (h : RowIn w R f b C k cap gv L cnt) (hk1 : 2 ≤ k) (hk2 : k ≤ 30) (hn : n ≤ 65536) (hs : Sz n L) (hq : ∀ j, j < 8 → 0 ≤ cnt j ∧ cnt j < 4611686018427387904) (B i j : Nat) (hB : C < B ∧ b < B) (hg : IntsAt w B gv [(i : Int), (j : Int)]) (hi : i < k) (hj : j < k + 2) :
    Calls Tryz.prog 28 #[.pointer (some ⟨R, 0, none⟩), .int .i64 4] w fun e w' => e = .returned (.tuple #[]) ∧ RowIn w' R f b C k cap gv (byPL n k (byQL n k L i) j) (up cnt 4) ∧ Sp [C, b, f] w w' := by
  obtain ⟨q1, q2⟩ := hq 4 (by omega)
  clear hq
  obtain ⟨G, gc, rfl, hG, g0, g1⟩ := hg.two
  have e3 := h.r3
  have hl := h.len
  have hP := byQ_any h hk1 hk2 hn hs i hi
  have hs1 := byQL_sz (k := k) hs (by omega) i
  have hP2 := fun (w' : World) (h' : RowIn w' R f b C k cap (.slice (some ⟨G, 0, none⟩) 2 gc) (byQL n k L i) cnt) => byP_any h' hk1 hk2 hn hs1 j hj
  obtain ⟨M, hM⟩ : ∃ M, M = byQL n k L i := ⟨_, rfl⟩
  rw [← hM] at hP hP2 ⊢
  clear h hs hg hs1 hM hl
  go_enter Tryz.func28, Tryz.ntmps28
  go_wp2_with fail
  refine hP.mono ?_; rintro e w1 ⟨rfl, h1, s1⟩
  have e4 := h1.r3
  have g2 := s1.gone (B := B) (by simp; omega) hG g1
  have hP3 := hP2 w1 h1
  clear hP hP2 e3 g0 g1 h1
  go_wp2_with fail
  refine hP3.mono ?_; rintro e w2 ⟨rfl, h2, s2⟩
  have s3 := (s1.mono (T' := [C, b, f]) (by simp)).trans (s2.mono (by simp))
  clear hP3 e4 g2 s1 s2
  have z0 := h2.r0
  have zc : _ = some (Value.int .i64 (cnt 4)) := h2.fix.c 4 (by omega)
  have zz := h2.fix.z (1 + 4)
  have HR : Hid (RowIn _ R f b C k cap _ _ (up cnt 4)) := h2.count 4 (by omega)
  have HS := s3
  clear h2
  simp only [Nat.reduceAdd] at zc zz HR
  go_wp2_with fail
  refine (count_add ⟨f, 5, none⟩ (cnt 4) 1 (by omega) (by omega) (by omega) (by omega) _ zc zz).mono ?_; rintro e w9 ⟨rfl, rfl⟩
  go_wp2
  go_end0
  exact ⟨rfl, HR.out, HS.set f 5 (by simp) _⟩

set_option maxRecDepth 100000 in
set_option maxHeartbeats 4000000 in
theorem restore5 {w : World} {R f b C k cap n : Nat} {gv : Value} {L : List ByteArray} {cnt : Nat → Int} (h : RowIn w R f b C k cap gv L cnt) (hk1 : 2 ≤ k) (hk2 : k ≤ 30) (hn : n ≤ 65536) (hs : Sz n L) (hq : ∀ j, j < 8 → 0 ≤ cnt j ∧ cnt j < 4611686018427387904) (B i j : Nat) (hB : C < B ∧ b < B) (hg : IntsAt w B gv [(i : Int), (j : Int)]) (hi : i < k + 2) :
    Calls Tryz.prog 28 #[.pointer (some ⟨R, 0, none⟩), .int .i64 5] w fun e w' => e = .returned (.tuple #[]) ∧ RowIn w' R f b C k cap gv (mkQL n k (byPL n k L i)) (up cnt 5) ∧ Sp [C, b, f] w w' := by
  obtain ⟨q1, q2⟩ := hq 5 (by omega)
  clear hq
  obtain ⟨G, gc, rfl, hG, g0, g1⟩ := hg.two
  have e3 := h.r3
  have hP := byP_any h hk1 hk2 hn hs i hi
  have hs1 := byPL_sz (k := k) hs i
  have hQ := fun (w' : World) (h' : RowIn w' R f b C k cap (.slice (some ⟨G, 0, none⟩) 2 gc) (byPL n k L i) cnt) => makeQ_any h' hk1 hk2 hn hs1
  obtain ⟨M, hM⟩ : ∃ M, M = byPL n k L i := ⟨_, rfl⟩
  rw [← hM] at hP hQ ⊢
  clear h hs hg hs1 hM
  go_enter Tryz.func28, Tryz.ntmps28
  go_wp2_with fail
  refine hP.mono ?_; rintro e w1 ⟨rfl, h1, s1⟩
  have hQ1 := hQ w1 h1
  clear hP hQ e3 g0 g1 h1
  go_wp2_with fail
  refine hQ1.mono ?_; rintro e w2 ⟨rfl, h2, s2⟩
  have s3 := (s1.mono (T' := [C, b, f]) (by simp)).trans (s2.mono (by simp))
  clear hQ1 s1 s2
  have z0 := h2.r0
  have zc : _ = some (Value.int .i64 (cnt 5)) := h2.fix.c 5 (by omega)
  have zz := h2.fix.z (1 + 5)
  have HR : Hid (RowIn _ R f b C k cap _ _ (up cnt 5)) := h2.count 5 (by omega)
  have HS := s3
  clear h2
  simp only [Nat.reduceAdd] at zc zz HR
  go_wp2_with fail
  refine (count_add ⟨f, 6, none⟩ (cnt 5) 1 (by omega) (by omega) (by omega) (by omega) _ zc zz).mono ?_; rintro e w9 ⟨rfl, rfl⟩
  go_wp2
  go_end0
  exact ⟨rfl, HR.out, HS.set f 6 (by simp) _⟩

set_option maxRecDepth 100000 in
set_option maxHeartbeats 4000000 in
theorem restore6 {w : World} {R f b C k cap n : Nat} {gv : Value} {L : List ByteArray} {cnt : Nat → Int} (h : RowIn w R f b C k cap gv L cnt) (hk1 : 2 ≤ k) (hk2 : k ≤ 30) (hn : n ≤ 65536) (hs : Sz n L) (hq : ∀ j, j < 8 → 0 ≤ cnt j ∧ cnt j < 4611686018427387904) (B i j : Nat) (hB : C < B ∧ b < B) (hg : IntsAt w B gv [(i : Int), (j : Int)]) (hi : i < k + 2) :
    Calls Tryz.prog 28 #[.pointer (some ⟨R, 0, none⟩), .int .i64 6] w fun e w' => e = .returned (.tuple #[]) ∧ RowIn w' R f b C k cap gv (mkQL n k (byPL n k L i)) (up cnt 6) ∧ Sp [C, b, f] w w' := by
  obtain ⟨q1, q2⟩ := hq 6 (by omega)
  clear hq
  obtain ⟨G, gc, rfl, hG, g0, g1⟩ := hg.two
  have e3 := h.r3
  have hP := byP_any h hk1 hk2 hn hs i hi
  have hs1 := byPL_sz (k := k) hs i
  have hQ := fun (w' : World) (h' : RowIn w' R f b C k cap (.slice (some ⟨G, 0, none⟩) 2 gc) (byPL n k L i) cnt) => makeQ_any h' hk1 hk2 hn hs1
  obtain ⟨M, hM⟩ : ∃ M, M = byPL n k L i := ⟨_, rfl⟩
  rw [← hM] at hP hQ ⊢
  clear h hs hg hs1 hM
  go_enter Tryz.func28, Tryz.ntmps28
  go_wp2_with fail
  refine hP.mono ?_; rintro e w1 ⟨rfl, h1, s1⟩
  have hQ1 := hQ w1 h1
  clear hP hQ e3 g0 g1 h1
  go_wp2_with fail
  refine hQ1.mono ?_; rintro e w2 ⟨rfl, h2, s2⟩
  have s3 := (s1.mono (T' := [C, b, f]) (by simp)).trans (s2.mono (by simp))
  clear hQ1 s1 s2
  have z0 := h2.r0
  have zc : _ = some (Value.int .i64 (cnt 6)) := h2.fix.c 6 (by omega)
  have zz := h2.fix.z (1 + 6)
  have HR : Hid (RowIn _ R f b C k cap _ _ (up cnt 6)) := h2.count 6 (by omega)
  have HS := s3
  clear h2
  simp only [Nat.reduceAdd] at zc zz HR
  go_wp2_with fail
  refine (count_add ⟨f, 7, none⟩ (cnt 6) 1 (by omega) (by omega) (by omega) (by omega) _ zc zz).mono ?_; rintro e w9 ⟨rfl, rfl⟩
  go_wp2
  go_end0
  exact ⟨rfl, HR.out, HS.set f 7 (by simp) _⟩

set_option maxRecDepth 100000 in
set_option maxHeartbeats 4000000 in
theorem restore7 {w : World} {R f b C k cap n : Nat} {gv : Value} {L : List ByteArray} {cnt : Nat → Int} (h : RowIn w R f b C k cap gv L cnt) (hk1 : 2 ≤ k) (hk2 : k ≤ 30) (hn : n ≤ 65536) (hs : Sz n L) (hq : ∀ j, j < 8 → 0 ≤ cnt j ∧ cnt j < 4611686018427387904) (B i j : Nat) (hB : C < B ∧ b < B) (hg : IntsAt w B gv [(i : Int), (j : Int)]) (hi : i < k) (hj : j < k) (hij : i ≠ j) :
    Calls Tryz.prog 28 #[.pointer (some ⟨R, 0, none⟩), .int .i64 7] w fun e w' => e = .returned (.tuple #[]) ∧ RowIn w' R f b C k cap gv (byBL n k L i j) (up cnt 7) ∧ Sp [C, b, f] w w' := by
  obtain ⟨q1, q2⟩ := hq 7 (by omega)
  clear hq
  obtain ⟨G, gc, rfl, hG, g0, g1⟩ := hg.two
  have e3 := h.r3
  have hP := byBoth_any (h.kp (Kp.refl w).drew) hk1 hk2 hn hs i j hi hj hij
  clear h hs hg
  go_enter Tryz.func28, Tryz.ntmps28
  go_wp2_with fail
  go_region_held3 (fun w' => w'.cell? ⟨R, 3, none⟩ = some (.slice (some ⟨G, 0, none⟩) 2 gc) ∧ w'.cell? ⟨G, 0, none⟩ = some (.int .i64 (i : Int)) ∧ w'.cell? ⟨G, 1, none⟩ = some (.int .i64 (j : Int))) (first | go_keep | exact ⟨h1.r3, s1.gone (B := B) (by simp; omega) hG g0, s1.gone (B := B) (by simp; omega) hG g1⟩)
    (first | (go_at_call 43; refine hP.mono ?_; rintro e w1 ⟨rfl, h1, s1⟩))
  have s2 := ((Kp.refl w).drew.sp [C, b, f]).trans (s1.mono (by simp))
  clear hP e3 g0 g1 s1
  have z0 := h1.r0
  have zc : _ = some (Value.int .i64 (cnt 7)) := h1.fix.c 7 (by omega)
  have zz := h1.fix.z (1 + 7)
  have HR : Hid (RowIn _ R f b C k cap _ _ (up cnt 7)) := h1.count 7 (by omega)
  have HS := s2
  clear h1
  simp only [Nat.reduceAdd] at zc zz HR
  go_wp2_with fail
  refine (count_add ⟨f, 8, none⟩ (cnt 7) 1 (by omega) (by omega) (by omega) (by omega) _ zc zz).mono ?_; rintro e w9 ⟨rfl, rfl⟩
  go_wp2
  go_end0
  exact ⟨rfl, HR.out, HS.set f 8 (by simp) _⟩

end Go.Proofs.YtbcmgogfpboibaaGreatDoor
