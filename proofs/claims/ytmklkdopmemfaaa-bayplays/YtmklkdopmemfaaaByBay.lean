/-
  A bay in memory, and contracts of its calls: find, Member, Size, Steps, Off, Cut, step, Write, Read, Flush. Conditions: that the bay lies in memory.
-/
import Derived.Test.YtmklkdopmemfaaaByPow
namespace Go.Proofs.Ytmklkdopmemfaaa
open Go.RowKit Plain
set_option linter.unusedVariables false

/-- a bay at b, its list of members at m, the members at X, their blocks F. -/
structure BX (w0 w : World) (b m : Nat) (X F : List Nat) (B : BS) : Prop where
  p : PwIn w b (.slice (some ⟨m, 0, none⟩) B.ms.length B.ms.length) B.pw B.md B.g
  hm : m < w.heap.size
  ar : ∀ i, i < B.ms.length → w.cell? ⟨m, i, none⟩ = some (.pointer (some ⟨X.getD i 0, 0, none⟩))
  fam : Fam Ow w0 w X B.ms F
  n1 : b ∉ F
  n2 : m ∉ F
  n3 : b ≠ m
  n4 : w0.heap.size ≤ b
  n5 : w0.heap.size ≤ m
  gd : Gd B
/-- a bay of the call's own since w0. -/
def Bw (w0 w : World) (b : Nat) (T : List Nat) (B : BS) : Prop := ∃ m X F, T = b :: m :: F ∧ BX w0 w b m X F B
theorem BX.sp {w0 w w' : World} {b m : Nat} {X F : List Nat} {B : BS} (h : BX w0 w b m X F B) {T : List Nat} (k : Sp T w w') (hT : ∀ t, t ∈ b :: m :: F → t ∉ T) : BX w0 w' b m X F B := by
  have hb : b ∉ T := hT b (by simp)
  have hm : m ∉ T := hT m (by simp)
  exact ⟨h.p.sp k hb, Nat.lt_of_lt_of_le h.hm k.size, fun i hi => k.held (h.ar i hi) hm, h.fam.sp OL.ow k (fun t ht => hT t (by simp [ht])), h.n1, h.n2, h.n3, h.n4, h.n5, h.gd⟩
theorem BX.low {w0 w : World} {b m : Nat} {X F : List Nat} {B : BS} (h : BX w0 w b m X F B) : ∀ t, t ∈ b :: m :: F → t < w.heap.size := fun t ht => by
  simp only [List.mem_cons] at ht
  rcases ht with rfl | rfl | ht
  · exact h.p.hb
  · exact h.hm
  · exact h.fam.low OL.ow t ht
theorem BX.new {w0 w : World} {b m : Nat} {X F : List Nat} {B : BS} (h : BX w0 w b m X F B) : ∀ t, t ∈ b :: m :: F → w0.heap.size ≤ t := fun t ht => by
  simp only [List.mem_cons] at ht
  rcases ht with rfl | rfl | ht
  · exact h.n4
  · exact h.n5
  · exact h.fam.new OL.ow t ht
theorem OL.bw : OL Bw := ⟨fun ⟨m, X, F, e, h⟩ => by rw [e]; exact h.low, fun ⟨m, X, F, e, h⟩ => by rw [e]; exact h.new, fun ⟨m, X, F, e, h⟩ k hT => ⟨m, X, F, e, h.sp k (by rw [← e]; exact hT)⟩⟩
/-- another power. -/
theorem BX.pow {w0 w w' : World} {b m : Nat} {X F : List Nat} {B B' : BS} (h : BX w0 w b m X F B) (k : Sp [b] w w') (hp : PwIn w' b (.slice (some ⟨m, 0, none⟩) B.ms.length B.ms.length) B'.pw B'.md B'.g) (e : B'.ms = B.ms) (hg : Gd B') : BX w0 w' b m X F B' := by
  refine ⟨by rw [e]; exact hp, Nat.lt_of_lt_of_le h.hm k.size, fun i hi => k.held (h.ar i (by rw [← e]; exact hi)) (by simpa using h.n3.symm), by rw [e]; exact h.fam.sp OL.ow k (fun t ht => by simp; rintro rfl; exact h.n1 ht), h.n1, h.n2, h.n3, h.n4, h.n5, hg⟩
/-- one of its members, and what a call on it leaves. -/
theorem BX.at {w0 w : World} {b m : Nat} {X F : List Nat} {B : BS} (h : BX w0 w b m X F B) {i : Int} (hi : fdE B i = 0) : ∃ P, (∀ t, t ∈ P → t ∈ F) ∧ Ow w0 w (X.getD i.toNat 0) P (bm B i) ∧ ∀ w' S', Nx w0 w w' (X.getD i.toNat 0) P S' → Right S' → S'.row.length ≤ B.g → Nz Bw w0 w w' b (b :: m :: F) (put B i S') := by
  obtain ⟨_, _, h1, _⟩ := bm_mem hi
  obtain ⟨P, p1, p2, p3⟩ := h.fam.at OL.ow noM i.toNat h1
  refine ⟨P, p1, p2, fun w' S' hn hr hl => ?_⟩
  obtain ⟨F', q1, q2, q3⟩ := p3 w' S' hn
  have hbF : b ∉ F' := fun ht => by
    rcases q3 b ht with h5 | h5
    · exact h.n1 h5
    · have := h.p.hb; omega
  have hmF : m ∉ F' := fun ht => by
    rcases q3 m ht with h5 | h5
    · exact h.n2 h5
    · have := h.hm; omega
  have hl2 : (put B i S').ms.length = B.ms.length := by simp [put]
  refine ⟨b :: m :: F', ⟨m, X, F', rfl, ⟨by rw [hl2]; exact h.p.sp q2 h.n1, Nat.lt_of_lt_of_le h.hm q2.size, fun j hj => q2.held (h.ar j (by rw [← hl2]; exact hj)) h.n2, q1, hbF, hmF, h.n3, h.n4, h.n5, h.gd.put i S' hr hl⟩⟩, q2.mono (fun t ht => by simp [ht]), fun t ht => ?_⟩
  simp only [List.mem_cons] at ht ⊢
  rcases ht with rfl | rfl | ht
  · exact .inl (.inl rfl)
  · exact .inl (.inr (.inl rfl))
  · rcases q3 t ht with h5 | h5
    · exact .inl (.inr (.inr h5))
    · exact .inr h5
theorem BX.size {w0 w : World} {b m : Nat} {X F : List Nat} {B : BS} (h : BX w0 w b m X F B) : 1 ≤ B.ms.length ∧ B.ms.length ≤ 32 := ⟨h.gd.n1, h.gd.n2⟩
/-- a member, or none. -/
def ptr (B : BS) (X : List Nat) (i : Int) : Value := if fdE B i = 0 then .pointer (some ⟨X.getD i.toNat 0, 0, none⟩) else .pointer none

set_option maxRecDepth 100000 in
theorem find_any {w0 w : World} {b m : Nat} {X F : List Nat} {B : BS} (h : BX w0 w b m X F B) (i : Int) : Calls Try.prog 39 #[.pointer (some ⟨b, 0, none⟩), .int .i64 i] w fun e w' => e = .returned (.tuple #[ptr B X i, .int .i64 (fdE B i)]) ∧ w' = w := by
  have c3 := h.p.c3
  obtain ⟨s1, s2⟩ := h.size
  have ar := h.ar i.toNat
  have f1 : fdE B i = if 0 ≤ i ∧ i < B.ms.length then 0 else 11 := rfl
  unfold ptr
  obtain ⟨f, hf⟩ : ∃ f, f = fdE B i := ⟨_, rfl⟩
  rw [← hf] at f1 ⊢
  obtain ⟨n, hn⟩ : ∃ n, n = B.ms.length := ⟨_, rfl⟩
  rw [← hn] at c3 s1 s2 ar f1
  clear hn h hf
  by_cases h0 : 0 ≤ i
  · by_cases h1 : i < n
    · have hc := ar (by omega)
      rw [if_pos ⟨h0, h1⟩] at f1
      subst f1
      rw [if_pos rfl]
      obtain ⟨k, rfl⟩ : ∃ k : Nat, i = (k : Int) := ⟨i.toNat, by omega⟩
      rw [Int.toNat_natCast] at hc ⊢
      have hk : k < n := by omega
      have q1 : ¬ (k : Int) < 0 := by omega
      have q2 : ¬ (n : Int) ≤ (k : Int) := by omega
      clear ar h0 h1
      go_enter Try.func39, Try.ntmps39
      go_wp2
      go_ret2
      exact ⟨rfl, rfl⟩
    · rw [if_neg (fun h => h1 h.2)] at f1
      subst f1
      rw [if_neg (by decide)]
      have q2 : (n : Int) ≤ i := by omega
      clear ar
      go_enter Try.func39, Try.ntmps39
      go_wp2
      go_ret2
      exact ⟨rfl, rfl⟩
  · rw [if_neg (fun h => h0 h.1)] at f1
    subst f1
    rw [if_neg (by decide)]
    have q1 : i < 0 := by omega
    clear ar
    go_enter Try.func39, Try.ntmps39
    go_wp2
    go_ret2
    exact ⟨rfl, rfl⟩
theorem member_any {w0 w : World} {b m : Nat} {X F : List Nat} {B : BS} (h : BX w0 w b m X F B) (i : Int) : Calls Try.prog 12 #[.pointer (some ⟨b, 0, none⟩), .int .i64 i] w fun e w' => e = .returned (ptr B X i) ∧ w' = w := by
  have hf := find_any h i
  clear h
  go_enter Try.func12, Try.ntmps12
  go_wp2_with fail
  refine hf.mono ?_
  rintro e w1 ⟨rfl, rfl⟩
  go_wp2
  go_ret
  exact ⟨rfl, rfl⟩
theorem bsize_any {w0 w : World} {b m : Nat} {X F : List Nat} {B : BS} (h : BX w0 w b m X F B) : Calls Try.prog 23 #[.pointer (some ⟨b, 0, none⟩)] w fun e w' => e = .returned (.int .i64 (B.ms.length : Int)) ∧ w' = w := by
  have c3 := h.p.c3
  clear h
  go_enter Try.func23, Try.ntmps23
  go_wp2
  go_ret
  exact ⟨rfl, rfl⟩
theorem steps_any {w0 w : World} {b m : Nat} {X F : List Nat} {B : BS} (h : BX w0 w b m X F B) : Calls Try.prog 21 #[.pointer (some ⟨b, 0, none⟩)] w fun e w' => e = .returned (.int .i64 (B.md : Int)) ∧ w' = w := by
  have c2 := h.p.c2
  clear h
  go_enter Try.func21, Try.ntmps21
  go_wp2_with fail
  refine (load_count ⟨b, 2, none⟩ _ w c2).mono ?_
  rintro e w1 ⟨rfl, rfl⟩
  go_wp2
  go_ret
  exact ⟨rfl, rfl⟩
theorem off_any {w0 w : World} {b m : Nat} {X F : List Nat} {B : BS} (h : BX w0 w b m X F B) : Calls Try.prog 20 #[.pointer (some ⟨b, 0, none⟩)] w fun e w' => e = .returned (.bool (ofB B)) ∧ w' = w := by
  have ho := out_any h.p
  unfold ofB
  obtain ⟨q, hq⟩ : ∃ q, q = decide (B.pw = some 0) := ⟨_, rfl⟩
  rw [← hq] at ho ⊢
  clear h hq
  go_enter Try.func20, Try.ntmps20
  go_wp2_with fail
  refine ho.mono ?_
  rintro e w1 ⟨rfl, rfl⟩
  go_wp2
  go_ret
  exact ⟨rfl, rfl⟩

end Go.Proofs.Ytmklkdopmemfaaa
