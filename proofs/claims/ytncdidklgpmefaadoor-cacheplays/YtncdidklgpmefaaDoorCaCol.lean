/-
  Contract of a stripe's columns' put. Conditions: that they lie in memory as told; that the column is one of those that there is place for.
-/
import Derived.Test.YtncdidklgpmefaaDoorCaMem
namespace Go.Proofs.YtncdidklgpmefaaDoor
open Go.RowKit Plain
set_option linter.unusedVariables false

theorem st_up {f : Int → ByteArray} {n : Nat} {s : ByteArray} (hs : s.size = 64) : orF (stF f) (oneF n) = stF (upS f n s) := by
  funext i
  unfold orF oneF stF upS
  by_cases e : (i : Int) = (n : Int)
  · rw [if_pos e, isS_of hs, decide_eq_true e, Bool.or_true]
  · rw [if_neg e, decide_eq_false e, Bool.or_false]
theorem sd_up {d : Int → Bool} {n : Nat} : orF (sdF d) (oneF n) = sdF (upB d n true) := by
  funext i
  unfold orF oneF sdF upB
  by_cases e : (i : Int) = (n : Int)
  · rw [if_pos e, decide_eq_true e, Bool.or_true]
  · rw [if_neg e, decide_eq_false e, Bool.or_false]
/-- four words stored at a place of a block. -/
def pw4 (w : World) (b off : Nat) (v : Nat → Nat) : World := (((w.setCell ⟨b, off, none⟩ (.int .u64 (v 0 : Nat))).setCell ⟨b, off + 1, none⟩ (.int .u64 (v 1 : Nat))).setCell ⟨b, off + 2, none⟩ (.int .u64 (v 2 : Nat))).setCell ⟨b, off + 3, none⟩ (.int .u64 (v 3 : Nat))
/-- what a cell holds behind. -/
def pwF (off : Nat) (v : Nat → Nat) (f : Nat → Value) (j : Nat) : Value := if off ≤ j ∧ j < off + 4 then .int .u64 (v (j - off) : Nat) else f j
theorem Cl.pw4 {w : World} {b m off : Nat} {f : Nat → Value} (h : Cl w b m f) (ho : off + 4 ≤ m) (v : Nat → Nat) : Cl (pw4 w b off v) b m (pwF off v f) := by
  refine ((((h.set off _ (by omega)).set (off + 1) _ (by omega)).set (off + 2) _ (by omega)).set (off + 3) _ (by omega)).congr fun j hj => ?_
  unfold pwF
  by_cases e3 : j = off + 3
  · rw [if_pos e3, if_pos (by omega), show j - off = 3 by omega]
  · rw [if_neg e3]
    by_cases e2 : j = off + 2
    · rw [if_pos e2, if_pos (by omega), show j - off = 2 by omega]
    · rw [if_neg e2]
      by_cases e1 : j = off + 1
      · rw [if_pos e1, if_pos (by omega), show j - off = 1 by omega]
      · rw [if_neg e1]
        by_cases e0 : j = off
        · rw [if_pos e0, if_pos (by omega), show j - off = 0 by omega]
        · rw [if_neg e0, if_neg (by omega)]
theorem Sp.pw4 {w w' : World} {b off : Nat} (h : Sp [b] w w') (v : Nat → Nat) : Sp [b] w (pw4 w' b off v) := (((h.set b _ (by simp) _).set b _ (by simp) _).set b _ (by simp) _).set b _ (by simp) _
/-- columns with one put. -/
theorem hc_putN (h : Hd) (n : Nat) (s : ByteArray) (hn : n < 30) (hs : s.size = 64) (j : Nat) (hj : j < 72) : (if j = 4 + n then .string s else pwF 0 (wd (orF (stF h.n) (oneF n))) (hc h) j) = hc { h with n := upS h.n n s } j := by
  rw [st_up hs]
  unfold pwF
  by_cases e1 : j = 4 + n
  · rw [if_pos e1, e1]
    unfold hc
    rw [if_pos (by omega), cc_text]
    show _ = Value.string (upS h.n n s n)
    unfold upS
    rw [if_pos rfl]
  · rw [if_neg e1]
    by_cases e2 : j < 4
    · rw [if_pos (by omega), Nat.sub_zero]
      unfold hc
      rw [if_pos (by omega), cc_word _ e2]
    · rw [if_neg (by omega)]
      unfold hc
      by_cases e3 : j < 34
      · rw [if_pos e3, if_pos e3]
        unfold cc
        rw [if_neg e2, if_neg e2]
        show _ = Value.string (upS h.n n s _)
        unfold upS
        rw [if_neg (by omega)]
      · rw [if_neg e3, if_neg e3]
theorem hc_putO (h : Hd) (n : Nat) (s : ByteArray) (hn : n < 30) (hs : s.size = 64) (j : Nat) (hj : j < 72) : (if j = 34 + 4 + n then .string s else pwF 34 (wd (orF (stF h.o) (oneF n))) (hc h) j) = hc { h with o := upS h.o n s } j := by
  rw [st_up hs]
  unfold pwF
  by_cases e1 : j = 34 + 4 + n
  · rw [if_pos e1, e1]
    unfold hc
    rw [if_neg (by omega), if_pos (by omega), show 34 + 4 + n - 34 = 4 + n by omega, cc_text]
    show _ = Value.string (upS h.o n s n)
    unfold upS
    rw [if_pos rfl]
  · rw [if_neg e1]
    by_cases e2 : 34 ≤ j ∧ j < 38
    · rw [if_pos (by omega)]
      unfold hc
      rw [if_neg (by omega), if_pos (by omega), cc_word _ (by omega)]
    · rw [if_neg (by omega)]
      unfold hc
      by_cases e3 : j < 34
      · rw [if_pos e3, if_pos e3]
      · rw [if_neg e3, if_neg e3]
        by_cases e4 : j < 68
        · rw [if_pos e4, if_pos e4]
          unfold cc
          rw [if_neg (by omega), if_neg (by omega)]
          show _ = Value.string (upS h.o n s _)
          unfold upS
          rw [if_neg (by omega)]
        · rw [if_neg e4, if_neg e4]
theorem hc_putD (h : Hd) (n : Nat) (j : Nat) (hj : j < 72) : pwF 68 (wd (orF (sdF h.d) (oneF n))) (hc h) j = hc { h with d := upB h.d n true } j := by
  rw [sd_up]
  unfold pwF hc
  by_cases e : j < 68
  · rw [if_neg (by omega)]
    by_cases e2 : j < 34
    · rw [if_pos e2, if_pos e2]
    · rw [if_neg e2, if_neg e2, if_pos e, if_pos e]
  · rw [if_pos (by omega), if_neg (by omega), if_neg e]
theorem hc_noD (h : Hd) (j : Nat) (hj : j < 72) : pwF 68 (wd noF) (hc h) j = hc { h with d := fun _ => false } j := by
  unfold pwF hc
  by_cases e : j < 68
  · rw [if_neg (by omega)]
    by_cases e2 : j < 34
    · rw [if_pos e2, if_pos e2]
    · rw [if_neg e2, if_neg e2, if_pos e, if_pos e]
  · rw [if_pos (by omega), if_neg (by omega), if_neg e]
    rfl

set_option maxRecDepth 100000 in
set_option maxHeartbeats 1000000 in
theorem cput_raw (b off : Nat) (f : Int → ByteArray) (w : World) (h : Co w b off f) (hb : b < w.heap.size) (n : Nat) (hn : n < 30) (s : ByteArray) :
    Calls Tryd.prog 30 #[.pointer (some ⟨b, off, none⟩), .int .i64 n, .string s] w fun e w' => e = .returned (.tuple #[]) ∧ ∃ w1, Kp w w1 ∧ w' = (pw4 w1 b off (wd (orF (stF f) (oneF n)))).setCell ⟨b, off + 4 + n, none⟩ (.string s) := by
  have hH := with_any (stF f) n w
  obtain ⟨d0, d1, d2, d3⟩ := h.four
  unfold SV at hH
  have HQ : Hid (∀ w1, Kp w w1 → Co w1 b off f) := fun w1 k => h.kp hb k
  clear h hb
  go_enter Tryd.func30, Tryd.ntmps30
  go_wp2_with fail
  refine hH.mono ?_; rintro e w1 ⟨rfl, k1⟩
  have hQ := HQ.out w1 k1
  obtain ⟨c0, c1, c2, c3⟩ := hQ.four
  have ct := hQ.text n hn
  have hz := hQ.z
  clear hH hQ d0 d1 d2 d3
  go_wp2
  go_end0
  exact ⟨rfl, w1, k1, rfl⟩
theorem cput_now (b : Nat) (h : Hd) (w : World) (k : Cl w b 72 (hc h)) (n : Nat) (hn : n < 30) (s : ByteArray) (hs : s.size = 64) :
    Calls Tryd.prog 30 #[.pointer (some ⟨b, 0, none⟩), .int .i64 n, .string s] w fun e w' => e = .returned (.tuple #[]) ∧ Cl w' b 72 (hc { h with n := upS h.n n s }) ∧ Sp [b] w w' := by
  refine (cput_raw b 0 h.n w k.now k.lt n hn s).mono ?_
  rintro e w' ⟨rfl, w1, k1, rfl⟩
  refine ⟨rfl, (((k.kp k1).pw4 (by omega) _).set (0 + 4 + n) _ (by omega)).congr fun j hj => ?_, ((k1.sp _).pw4 _).set b _ (by simp) _⟩
  rw [Nat.zero_add]
  exact hc_putN h n s hn hs j hj
theorem cput_old (b : Nat) (h : Hd) (w : World) (k : Cl w b 72 (hc h)) (n : Nat) (hn : n < 30) (s : ByteArray) (hs : s.size = 64) :
    Calls Tryd.prog 30 #[.pointer (some ⟨b, 34, none⟩), .int .i64 n, .string s] w fun e w' => e = .returned (.tuple #[]) ∧ Cl w' b 72 (hc { h with o := upS h.o n s }) ∧ Sp [b] w w' := by
  refine (cput_raw b 34 h.o w k.old k.lt n hn s).mono ?_
  rintro e w' ⟨rfl, w1, k1, rfl⟩
  refine ⟨rfl, (((k.kp k1).pw4 (by omega) _).set (34 + 4 + n) _ (by omega)).congr fun j hj => ?_, ((k1.sp _).pw4 _).set b _ (by simp) _⟩
  exact hc_putO h n s hn hs j hj

end Go.Proofs.YtncdidklgpmefaaDoor
