/-
  Contracts of package bulk: Add, Scale, Fold, Double, Noughts: the buffer, or the error, as the document words it. Conditions: the arguments' own kinds, and that a list's cells hold the texts.
-/
import Derived.Test.YtbcmgogfpboibaaGreatDoorBufBuild
import Derived.WalkKit
namespace Go.Proofs.YtbcmgogfpboibaaGreatDoor
open Go.RowKit Plain Go.BigFrame

/-- the buffer, where the texts may be buffers of one length; else none. -/
def resOf (l : List ByteArray) (r : ByteArray) : ByteArray := if fitE l = 0 then r else noS
theorem res_is (l : List ByteArray) (wd : Nat → Nat) (r : ByteArray) (h : fitE l = 0 → bs (l.getD 0 noS).size (wbF wd) = r) : bs (lenS l) (wbF wd) = resOf l r := by
  unfold resOf
  by_cases hf : fitE l = 0
  · rw [if_pos hf, fit_zero l hf, h hf]
  · rw [if_neg hf, fit_not l hf]; rfl
theorem res_add (l : List ByteArray) : bs (lenS l) (wbF (addW l)) = resOf l (addS l) := res_is l _ _ fun hf => by
  cases l with
  | nil => rfl
  | cons s r =>
    refine add_is s r (fun t ht => ?_)
    obtain ⟨i, hi, rfl⟩ := List.getElem_of_mem ht
    have := (fit_is _ hf).2 (i + 1) (by simp; omega)
    simpa [List.getD_eq_getElem?_getD, hi] using this
theorem res_scale (c : Nat) (hc : c < 256) (s : ByteArray) : bs (lenS [s]) (wbF (scaleW c s)) = resOf [s] (scaleS c s) := res_is _ _ _ fun _ => scale_is c hc s
theorem fit_two {a s : ByteArray} (h : fitE [a, s] = 0) : a.size ≤ 65536 ∧ s.size = a.size := ⟨(fit_is _ h).1 0 (by simp), (fit_is _ h).2 1 (by simp)⟩
theorem res_fold (a : ByteArray) (c : Nat) (hc : c < 256) (s : ByteArray) : bs (lenS [a, s]) (wbF (foldW a c s)) = resOf [a, s] (foldS a c s) := res_is _ _ _ fun hf => by
  show bs a.size _ = _
  rw [← (fit_two hf).2]; exact fold_is a c hc s
theorem res_double (a s : ByteArray) : bs (lenS [a, s]) (wbF (doubleW a s)) = resOf [a, s] (foldS s 2 a) := res_is _ _ _ fun _ => double_is a s

theorem small1 {x : ByteArray} (hx : x.size ≤ maxLen) : ∀ i, i < [x].length → ([x].getD i noS).size ≤ maxLen := fun i hi => by
  obtain rfl : i = 0 := by simp at hi; omega
  exact hx
theorem small2 {x y : ByteArray} (hx : x.size ≤ maxLen) (hy : y.size ≤ maxLen) : ∀ i, i < [x, y].length → ([x, y].getD i noS).size ≤ maxLen := fun i hi => by
  have h : i = 0 ∨ i = 1 := by simp at hi; omega
  rcases h with rfl | rfl
  · exact hx
  · exact hy

set_option maxHeartbeats 1000000 in
theorem addw_none (c cap : Nat) (a : Option Addr) (w : World) (hv : w.cell? ⟨c, 0, none⟩ = some (.slice a 0 cap)) (p : Nat) :
    Calls Tryz.prog 57 #[.int .i64 p, .pointer (some ⟨c, 0, none⟩)] w fun e w' => e = .returned (.int .u64 0) ∧ w' = w := by
  go_enter Tryz.func57, Tryz.ntmps57
  go_wp2
  refine wp_loop_rounds 1 ?_
  rw [rounds_succ]
  go_wp2
  go_ret
  exact ⟨rfl, rfl⟩
theorem addw_any (c : Nat) (v : Value) (l : List ByteArray) (hs : ∀ i, i < l.length → (l.getD i noS).size ≤ maxLen) (w : World) (hv : w.cell? ⟨c, 0, none⟩ = some v) (h : StrsIn w v l) (p : Nat) (hp : p < 9223372036854775807) :
    Calls Tryz.prog 57 #[.int .i64 p, .pointer (some ⟨c, 0, none⟩)] w fun e w' => e = .returned (.int .u64 (addW l p : Nat)) ∧ Kp w w' := by
  cases h with
  | empty a cap h => exact (addw_none c cap a w hv p).mono fun e w' ⟨he, hw⟩ => ⟨he, by rw [hw]; exact Kp.refl _⟩
  | some b off cap l h0 h1 h2 hc => exact (addw_some c b off cap l h1 h2 hs w hv hc p hp).mono fun e w' ⟨he, hw⟩ => ⟨he, by rw [hw]; exact Kp.refl _⟩

set_option maxRecDepth 100000 in
set_option maxHeartbeats 2000000 in
theorem add_any (v : Value) (l : List ByteArray) (hs : ∀ i, i < l.length → (l.getD i noS).size ≤ maxLen) (w : World) (h : StrsIn w v l) :
    Calls Tryz.prog 38 #[v] w fun e w' => e = .returned (.tuple #[.string (resOf l (addS l)), .int .i64 (fitE l)]) ∧ Kp w w' := by
  have hmf : ∀ (fn : Fn) (first cap : Array Value) (w : World), (Instr.makeFunc fn first cap).run Tryz.prog w = .ok (.func fn first cap) w := fun _ _ _ _ => rfl
  have kA : Kp w (w.alloc (.cells #[v] 33)) := (Kp.refl w).alloc _
  have hc : (w.alloc (.cells #[v] 33)).cell? ⟨w.heap.size, 0, none⟩ = some v := by rw [World.cell?_alloc_at _ _ _ _ rfl]; rfl
  have hS := h.kept kA
  have HB := build_add w.heap.size v l hs (addW l) (addW_lt l) (w.alloc (.cells #[v] 33)) hS (fun w' k p hp => addw_any w.heap.size v l hs w' (k.held hc) (hS.kept k) p hp)
  rw [res_add] at HB
  clear hS hc
  cases h with
  | empty a cap h =>
    go_enter Tryz.func38, Tryz.ntmps38
    go_wp2_with fail
    refine HB.mono ?_; rintro e w2 ⟨rfl, k⟩
    go_wp2
    go_ret2
    exact ⟨rfl, kA.trans k⟩
  | some b off cap l h0 h1 h2 hc =>
    go_enter Tryz.func38, Tryz.ntmps38
    go_wp2_with fail
    refine HB.mono ?_; rintro e w2 ⟨rfl, k⟩
    go_wp2
    go_ret2
    exact ⟨rfl, kA.trans k⟩

set_option maxRecDepth 100000 in
set_option maxHeartbeats 2000000 in
theorem scale_any (c : Nat) (hc : c < 256) (s : ByteArray) (hs : s.size ≤ maxLen) (w : World) :
    Calls Tryz.prog 73 #[.int .u8 c, .string s] w fun e w' => e = .returned (.tuple #[.string (resOf [s] (scaleS c s)), .int .i64 (fitE [s])]) ∧ Kp w w' := by
  have hmf : ∀ (fn : Fn) (first cap : Array Value) (w : World), (Instr.makeFunc fn first cap).run Tryz.prog w = .ok (.func fn first cap) w := fun _ _ _ _ => rfl
  obtain ⟨w1, hw1⟩ : ∃ w1, w1 = w.alloc (.cells #[.int .u8 c] 5) := ⟨_, rfl⟩
  obtain ⟨w2, hw2⟩ : ∃ w2, w2 = w1.alloc (.cells #[.string s] 9) := ⟨_, rfl⟩
  obtain ⟨w3, hw3⟩ : ∃ w3, w3 = w2.alloc (.cells #[.string s] 9) := ⟨_, rfl⟩
  have k1 : Kp w w1 := by rw [hw1]; exact (Kp.refl w).alloc _
  have k2 : Kp w1 w2 := by rw [hw2]; exact (Kp.refl w1).alloc _
  have k3 : Kp w2 w3 := by rw [hw3]; exact (Kp.refl w2).alloc _
  have z1 : w1.heap.size = w.heap.size + 1 := by rw [hw1]; simp
  have z2 : w2.heap.size = w.heap.size + 1 + 1 := by rw [hw2]; simp [z1]
  have c1 : w1.cell? ⟨w.heap.size, 0, none⟩ = some (.int .u8 c) := by rw [hw1, World.cell?_alloc_at _ _ _ _ rfl]; rfl
  have c2 : w2.cell? ⟨w.heap.size + 1, 0, none⟩ = some (.string s) := by rw [← z1, hw2, World.cell?_alloc_at _ _ _ _ rfl]; rfl
  have hS : StrsIn w3 (.slice (some ⟨w.heap.size + 1 + 1, 0, none⟩) 1 1) [s] := by rw [← z2, hw3]; exact StrsIn.lit1 w2 s _
  have HB := build_scale (w.heap.size + 1) w.heap.size _ [s] (small1 hs) (scaleW c s) (scaleW_lt c s) w3 hS (fun w' k p hp => scalew_any _ _ s hs c hc w' (k.held (k3.held c2)) (k.held (k3.held (k2.held c1))) p hp)
  have K := k1.trans (k2.trans k3)
  rw [res_scale c hc s] at HB
  subst hw3; subst hw2; subst hw1
  clear k1 k2 k3 z1 z2 c1 c2 hS
  go_enter Tryz.func73, Tryz.ntmps73
  go_wp2_with fail
  refine HB.mono ?_; rintro e w2 ⟨rfl, k⟩
  go_wp2
  go_ret2
  exact ⟨rfl, K.trans k⟩

set_option maxRecDepth 100000 in
set_option maxHeartbeats 2000000 in
theorem fold_any (a : ByteArray) (ha : a.size ≤ maxLen) (c : Nat) (hc : c < 256) (s : ByteArray) (hs : s.size ≤ maxLen) (w : World) :
    Calls Tryz.prog 63 #[.string a, .int .u8 c, .string s] w fun e w' => e = .returned (.tuple #[.string (resOf [a, s] (foldS a c s)), .int .i64 (fitE [a, s])]) ∧ Kp w w' := by
  have hmf : ∀ (fn : Fn) (first cap : Array Value) (w : World), (Instr.makeFunc fn first cap).run Tryz.prog w = .ok (.func fn first cap) w := fun _ _ _ _ => rfl
  obtain ⟨w0, hw0⟩ : ∃ w0, w0 = w.alloc (.cells #[.string a] 9) := ⟨_, rfl⟩
  obtain ⟨w1, hw1⟩ : ∃ w1, w1 = w0.alloc (.cells #[.int .u8 c] 5) := ⟨_, rfl⟩
  obtain ⟨w2, hw2⟩ : ∃ w2, w2 = w1.alloc (.cells #[.string s] 9) := ⟨_, rfl⟩
  obtain ⟨w3, hw3⟩ : ∃ w3, w3 = w2.alloc (.cells #[.string a, .string s] 9) := ⟨_, rfl⟩
  have k0 : Kp w w0 := by rw [hw0]; exact (Kp.refl w).alloc _
  have k1 : Kp w0 w1 := by rw [hw1]; exact (Kp.refl w0).alloc _
  have k2 : Kp w1 w2 := by rw [hw2]; exact (Kp.refl w1).alloc _
  have k3 : Kp w2 w3 := by rw [hw3]; exact (Kp.refl w2).alloc _
  have z0 : w0.heap.size = w.heap.size + 1 := by rw [hw0]; simp
  have z1 : w1.heap.size = w.heap.size + 1 + 1 := by rw [hw1]; simp [z0]
  have z2 : w2.heap.size = w.heap.size + 1 + 1 + 1 := by rw [hw2]; simp [z1]
  have c0 : w0.cell? ⟨w.heap.size, 0, none⟩ = some (.string a) := by rw [hw0, World.cell?_alloc_at _ _ _ _ rfl]; rfl
  have c1 : w1.cell? ⟨w.heap.size + 1, 0, none⟩ = some (.int .u8 c) := by rw [← z0, hw1, World.cell?_alloc_at _ _ _ _ rfl]; rfl
  have c2 : w2.cell? ⟨w.heap.size + 1 + 1, 0, none⟩ = some (.string s) := by rw [← z1, hw2, World.cell?_alloc_at _ _ _ _ rfl]; rfl
  have hS : StrsIn w3 (.slice (some ⟨w.heap.size + 1 + 1 + 1, 0, none⟩) 2 2) [a, s] := by rw [← z2, hw3]; exact StrsIn.lit2 w2 a s _
  have HB := build_fold w.heap.size (w.heap.size + 1 + 1) (w.heap.size + 1) _ [a, s] (small2 ha hs) (foldW a c s) (foldW_lt a c s) w3 hS (fun w' k p hp => foldw_any _ _ _ a s ha hs c hc w' (k.held (k3.held (k2.held (k1.held c0)))) (k.held (k3.held c2)) (k.held (k3.held (k2.held c1))) p hp)
  have K := k0.trans (k1.trans (k2.trans k3))
  rw [res_fold a c hc s] at HB
  subst hw3; subst hw2; subst hw1; subst hw0
  clear k0 k1 k2 k3 z0 z1 z2 c0 c1 c2 hS
  go_enter Tryz.func63, Tryz.ntmps63
  go_wp2_with fail
  refine HB.mono ?_; rintro e w2 ⟨rfl, k⟩
  go_wp2
  go_ret2
  exact ⟨rfl, K.trans k⟩

set_option maxRecDepth 100000 in
set_option maxHeartbeats 2000000 in
theorem double_any (a s : ByteArray) (ha : a.size ≤ maxLen) (hs : s.size ≤ maxLen) (w : World) :
    Calls Tryz.prog 66 #[.string a, .string s] w fun e w' => e = .returned (.tuple #[.string (resOf [a, s] (foldS s 2 a)), .int .i64 (fitE [a, s])]) ∧ Kp w w' := by
  have hmf : ∀ (fn : Fn) (first cap : Array Value) (w : World), (Instr.makeFunc fn first cap).run Tryz.prog w = .ok (.func fn first cap) w := fun _ _ _ _ => rfl
  obtain ⟨w1, hw1⟩ : ∃ w1, w1 = w.alloc (.cells #[.string a] 9) := ⟨_, rfl⟩
  obtain ⟨w2, hw2⟩ : ∃ w2, w2 = w1.alloc (.cells #[.string s] 9) := ⟨_, rfl⟩
  obtain ⟨w3, hw3⟩ : ∃ w3, w3 = w2.alloc (.cells #[.string a, .string s] 9) := ⟨_, rfl⟩
  have k1 : Kp w w1 := by rw [hw1]; exact (Kp.refl w).alloc _
  have k2 : Kp w1 w2 := by rw [hw2]; exact (Kp.refl w1).alloc _
  have k3 : Kp w2 w3 := by rw [hw3]; exact (Kp.refl w2).alloc _
  have z1 : w1.heap.size = w.heap.size + 1 := by rw [hw1]; simp
  have z2 : w2.heap.size = w.heap.size + 1 + 1 := by rw [hw2]; simp [z1]
  have c1 : w1.cell? ⟨w.heap.size, 0, none⟩ = some (.string a) := by rw [hw1, World.cell?_alloc_at _ _ _ _ rfl]; rfl
  have c2 : w2.cell? ⟨w.heap.size + 1, 0, none⟩ = some (.string s) := by rw [← z1, hw2, World.cell?_alloc_at _ _ _ _ rfl]; rfl
  have hS : StrsIn w3 (.slice (some ⟨w.heap.size + 1 + 1, 0, none⟩) 2 2) [a, s] := by rw [← z2, hw3]; exact StrsIn.lit2 w2 a s _
  have HB := build_double w.heap.size (w.heap.size + 1) _ [a, s] (small2 ha hs) (doubleW a s) (doubleW_lt a s) w3 hS (fun w' k p hp => doublew_any _ _ a s ha hs w' (k.held (k3.held (k2.held c1))) (k.held (k3.held c2)) p hp)
  have K := k1.trans (k2.trans k3)
  rw [res_double a s] at HB
  subst hw3; subst hw2; subst hw1
  clear k1 k2 k3 z1 z2 c1 c2 hS
  go_enter Tryz.func66, Tryz.ntmps66
  go_wp2_with fail
  refine HB.mono ?_; rintro e w2 ⟨rfl, k⟩
  go_wp2
  go_ret2
  exact ⟨rfl, K.trans k⟩

theorem made_zero {w : World} {base g n : Nat} {e : TypeId} (h : w.ownsRow base e 1 (.slice (some ⟨g, 0, none⟩) n n) n (madeCells (Value.int .u8 0).cells (n * 1)).toList) :
    w.ownsRow base e 1 (.slice (some ⟨g, 0, none⟩) n n) n ((List.range n).map fun i => Value.int .u8 ((((fun _ => 0 : Nat → Nat) i : Nat)) : Int)) := by
  have e1 : (madeCells (Value.int .u8 0).cells (n * 1)).toList = (List.range n).map fun _ => Value.int .u8 ((0 : Nat) : Int) := by
    rw [Nat.mul_one, show (Value.int .u8 0).cells = #[.int .u8 0] from rfl, toList_madeCells_one, List.map_const', List.length_range]; rfl
  rw [e1] at h
  exact h
/-- make([]byte, n), as a text. -/
theorem made_text {w0 : World} {base g n : Nat} {e : TypeId} {P : Program} (src dst : TypeId) (hs : P.underlying src = some (.slice e)) (he : P.underlying e = some (.int .u8)) (hd : P.underlying dst = some .string)
    (h : w0.ownsRow base e 1 (.slice (some ⟨g, 0, none⟩) n n) n (madeCells (Value.int .u8 0).cells (n * 1)).toList) : (convert src dst (.slice (some ⟨g, 0, none⟩) n n)).run P w0 = .ok (.string (zs n)) w0 :=
  convert_owned src dst hs he hd (made_zero h) (Nat.le_refl n) n
def noughtN (n : Int) : Nat := (min (max n 0) 65536).toNat
set_option maxRecDepth 100000 in
set_option maxHeartbeats 2000000 in
theorem noughts_any (n : Int) (h1 : -9223372036854775808 ≤ n) (h2 : n ≤ 9223372036854775807) (w : World) :
    Calls Tryz.prog 39 #[.int .i64 n] w fun e w' => e = .returned (.string (zs (noughtN n))) ∧ Kp w w' := by
  obtain ⟨i0, hi, hz0, hz1, hz2⟩ := info_parts info_u8
  obtain ⟨m, hm⟩ : ∃ m, m = noughtN n := ⟨_, rfl⟩
  have hm2 : (m : Int) = min (max n 0) 65536 := by rw [hm]; unfold noughtN; omega
  rw [← hm]
  clear hm
  go_enter Tryz.func39, Tryz.ntmps39
  go_wp2_with (at_make; refine wpList_make_full _ rfl _ _ 59 rfl w.heap.size 5 i0 (.int .u8 0) 1 Tryz.underlying59 hi hz0 hz1 .i64 .i64 _ _ m rfl rfl (by omega) (by omega) (by rw [hz2]; omega) (by unfold maxLen; omega) (Nat.le_refl _) ?_; intro w0 hown0 hgrow0; have hcv := made_text (P := Tryz.prog) 59 9 Tryz.underlying59 Tryz.underlying5 Tryz.underlying9 hown0)
  all_goals (go_ret; exact ⟨rfl, (Kp.refl w).grown (by assumption) (fun k hk => by cases hk)⟩)

end Go.Proofs.YtbcmgogfpboibaaGreatDoor
