/-
  A contract of a bay's Crash. Conditions: that the bay lies in memory, and the words that are kept, apart from it.
-/
import Derived.Test.YtmklkdopmemfaaaByLive
namespace Go.Proofs.Ytmklkdopmemfaaa
open Go.RowKit Plain
set_option linter.unusedVariables false

/-- lists of words in memory, apart from the blocks T. -/
structure Ks (w0 w : World) (T : List Nat) (v : Value) (n : Nat) (ks : Nat → List Nat) : Prop where
  h : ∃ a g off cap, v = .slice a n cap ∧ n ≤ cap ∧ cap ≤ 9223372036854775807 ∧ (0 < n → a = some ⟨g, off, none⟩ ∧ g < w.heap.size ∧ g ∉ T) ∧ ∀ j, j < n → ∃ u, w.cell? ⟨g, off + j, none⟩ = some u ∧ KeIn w0 u (ks j)
  z : ∀ j, n ≤ j → ks j = []
theorem Ks.none (w0 w : World) (T : List Nat) : Ks w0 w T (.slice none 0 0) 0 (fun _ => []) := ⟨⟨_, 0, 0, 0, rfl, by omega, by omega, fun h => absurd h (by omega), fun j hj => absurd hj (by omega)⟩, fun _ _ => rfl⟩
theorem KeIn.off {w0 : World} {v : Value} {ks : List Nat} (h : KeIn w0 v ks) {P : List Nat} (hP : ∀ t, t ∈ P → w0.heap.size ≤ t) : ∀ t, t ∈ P → ∀ g off n c, v = .slice (some ⟨g, off, none⟩) n c → 0 < n → g ≠ t := fun t ht g off n c hv hn => by
  have h1 := h.far g off n c hv hn
  have h2 := hP t ht
  omega
theorem BX.atX {w0 w : World} {b m : Nat} {X F : List Nat} {B : BS} (h : BX w0 w b m X F B) (i : Nat) (hi : i < B.ms.length) : ∃ P, (∀ t, t ∈ P → t ∈ F) ∧ Ow w0 w (X.getD i 0) P (B.ms.getD i noM) ∧ ∀ w' S', Nx w0 w w' (X.getD i 0) P S' → Right S' → S'.row.length ≤ B.g → ∃ F', BX w0 w' b m X F' ⟨B.pw, B.md, B.g, B.ms.set i S'⟩ ∧ Sp F w w' ∧ Nw w F F' := by
  obtain ⟨P, p1, p2, p3⟩ := h.fam.at OL.ow noM i hi
  refine ⟨P, p1, p2, fun w' S' hn hr hl => ?_⟩
  obtain ⟨F', q1, q2, q3⟩ := p3 w' S' hn
  have hbF : b ∉ F' := fun ht => by
    rcases q3 b ht with h5 | h5
    · exact h.n1 h5
    · have := h.p.hb; omega
  have hmF : m ∉ F' := fun ht => by
    rcases q3 m ht with h5 | h5
    · exact h.n2 h5
    · have := h.hm; omega
  have hl2 : (B.ms.set i S').length = B.ms.length := by simp
  have gd := h.gd.put (i : Int) S' hr hl
  exact ⟨F', ⟨by show PwIn w' b (.slice _ (B.ms.set i S').length (B.ms.set i S').length) B.pw B.md B.g; rw [hl2]; exact h.p.sp q2 h.n1, Nat.lt_of_lt_of_le h.hm q2.size, fun j hj => q2.held (h.ar j (by rw [← hl2]; exact hj)) h.n2, q1, hbF, hmF, h.n3, h.n4, h.n5, gd⟩, q2, q3⟩
theorem nw_more {w : World} {b m : Nat} {F F' : List Nat} (h : Nw w F F') : Nw w (b :: m :: F) (b :: m :: F') := fun t ht => by
  simp only [List.mem_cons] at ht ⊢
  rcases ht with rfl | rfl | ht
  · exact .inl (.inl rfl)
  · exact .inl (.inr (.inl rfl))
  · rcases h t ht with h5 | h5
    · exact .inl (.inr (.inr h5))
    · exact .inr h5
theorem cr_row (S : MS) (f : Nat → Bool) : (cr S f).row.length ≤ 0 := Nat.le_refl _
/-- behind k members' crashes. -/
def Ck (w0 w wr : World) (b m : Nat) (X F : List Nat) (B : BS) (ks : Nat → List Nat) (k : Nat) : Prop := ∃ F', BX w0 wr b m X F' ⟨B.pw, B.md, B.g, crM ks 0 k B.ms⟩ ∧ Sp (b :: m :: F) w wr ∧ Nw w (b :: m :: F) (b :: m :: F')
/-- one more of them. -/
theorem Ck.step {w0 w wr : World} {b m : Nat} {X F : List Nat} {B : BS} {ks : Nat → List Nat} {k : Nat} (h : Ck w0 w wr b m X F B ks k) (K : Kp w0 w) (hN : ∀ t, t ∈ b :: m :: F → w0.heap.size ≤ t) (hk : k < B.ms.length) (hg : B.g < 1000000) (v : Value) (hv : KeIn w0 v (ks k)) : Calls Try.prog 50 #[.pointer (some ⟨X.getD k 0, 0, none⟩), v] wr fun e w' => e = .returned (.tuple #[]) ∧ Ck w0 w w' b m X F B ks (k + 1) := by
  obtain ⟨F', h1, h2, h3⟩ := h
  have K1 : Kp w0 wr := Sp.kp K h2 hN
  have hl : (crM ks 0 k B.ms).length = B.ms.length := crM_len _ _ _ _
  obtain ⟨P, p1, p2, p3⟩ := h1.atX k (by show k < (crM ks 0 k B.ms).length; rw [hl]; exact hk)
  have e : (crM ks 0 k B.ms).getD k noM = B.ms.getD k noM := by
    rw [crM_at ks B.ms 0 k k hk, if_neg (by omega)]
  have p2' : Ow w0 wr (X.getD k 0) P (B.ms.getD k noM) := by rw [← e]; exact p2
  have hrl : (B.ms.getD k noM).row.length < 1000000 := by
    have := h1.gd.rl (B.ms.getD k noM) (by
      rw [← e]
      show _ ∈ crM ks 0 k B.ms
      rw [List.getD_eq_getElem?_getD, List.getElem?_eq_getElem (by rw [hl]; exact hk)]
      exact List.getElem_mem _)
    have h9 : (B.ms.getD k noM).row.length ≤ B.g := this
    omega
  refine (ow_crash p2' K1 v (ks k) (hv.kp K1) (hv.off p2'.new) hrl).mono fun e' w' ⟨he, hn⟩ => ⟨he, ?_⟩
  obtain ⟨F2, q1, q2, q3⟩ := p3 w' _ hn (Right.cr _) (Nat.le_trans (cr_row _ _) (Nat.zero_le _))
  refine ⟨F2, ?_, h2.then (q2.mono (fun t ht => by simp [ht])) h3, h3.trans (nw_more q3) h2.size⟩
  have em := crM_more ks B.ms 0 k hk
  rw [Nat.zero_add] at em
  rw [em]
  exact q1

set_option maxRecDepth 100000 in
set_option maxHeartbeats 1000000 in
theorem crash_bay {w0 w : World} {b m : Nat} {X F : List Nat} {B : BS} (h : BX w0 w b m X F B) (K : Kp w0 w) (v : Value) (n : Nat) (ks : Nat → List Nat) (hv : Ks w0 w (b :: m :: F) v n ks) (hg : B.g < 1000000) : Calls Try.prog 22 #[.pointer (some ⟨b, 0, none⟩), v] w fun e w' => e = .returned (.tuple #[]) ∧ Nz Bw w0 w w' b (b :: m :: F) (crB B ks) := by
  have c3 := h.p.c3
  obtain ⟨s1, s2⟩ := h.size
  have HN : Hid (∀ t, t ∈ b :: m :: F → w0.heap.size ≤ t) := h.new
  have H0 : Hid (Ck w0 w w b m X F B ks 0) := ⟨F, by rw [crM_none _ _ _ _ (Nat.le_refl _)]; exact h, Sp.refl _ _, Nw.refl _ _⟩
  have HGd := hid h.gd
  obtain ⟨N, hNN⟩ : ∃ N, N = B.ms.length := ⟨_, rfl⟩
  rw [← hNN] at c3 s1 s2
  have HL := hid hNN
  obtain ⟨a, g, off, cap, rfl, v1, v2, v3, v4⟩ := hv.h
  have HZ := hid hv.z
  have HV3 := hid v3
  have HV4 := hid v4
  clear h hNN hv v3 v4
  go_enter Try.func22, Try.ntmps22
  go_wp2_with fail
  go_loopw [13] (fun i wr => ∃ k : Nat, k ≤ N ∧ i = .int .i64 k ∧ Hid (Ck w0 w wr b m X F B ks k)) (fun i _ => N - (intOf i).toNat)
  case atStart => exact ⟨0, by omega, by go_num, H0⟩
  case round =>
    clear H0 c3
    obtain ⟨k, hk, rfl, HC⟩ := hrel
    by_cases hlt : k < N
    · have hk2 : k < B.ms.length := by rw [← HL.out]; exact hlt
      have ar : wr.cell? ⟨m, k, none⟩ = some (.pointer (some ⟨X.getD k 0, 0, none⟩)) := by
        obtain ⟨F', x1, _⟩ := HC.out
        exact x1.ar k (by show k < (crM ks 0 k B.ms).length; rw [crM_len]; exact hk2)
      by_cases hkn : k < n
      · obtain ⟨rfl, hgl, hgT⟩ := HV3.out (by omega)
        obtain ⟨u, hu, hke⟩ := HV4.out k hkn
        have hu2 : wr.cell? ⟨g, off + k, none⟩ = some u := by
          obtain ⟨F', _, x2, _⟩ := HC.out
          exact x2.held hu hgT
        have hc := Ck.step HC.out K HN.out hk2 hg u hke
        clear hu hke hgl hgT HC hk2
        go_wp2_with fail
        refine hc.mono ?_
        rintro e w1 ⟨rfl, q1⟩
        have Q1 := hid q1
        clear q1 hc
        go_wp2
        go_roundw
        case rel => exact ⟨k + 1, by omega, by go_num, Q1⟩
        case measure => simp [intOf]; omega
      · have hke : KeIn w0 (.slice none 0 0) (ks k) := by rw [HZ.out k (by omega)]; exact ke_nil w0
        have hc := Ck.step HC.out K HN.out hk2 hg _ hke
        have hkn2 : ¬ (k : Int) < (n : Int) := by omega
        clear hke HC hk2
        go_wp2_with fail
        refine hc.mono ?_
        rintro e w1 ⟨rfl, q1⟩
        have Q1 := hid q1
        clear q1 hc
        go_wp2
        go_roundw
        case rel => exact ⟨k + 1, by omega, by go_num, Q1⟩
        case measure => simp [intOf]; omega
    · obtain rfl : k = N := by omega
      obtain ⟨F', x1, x2, x3⟩ := HC.out
      have hr := restore_any x1.p
      have HX1 := hid x1
      have HX2 := hid x2
      have HX3 := hid x3
      clear x1 x2 x3 HC
      go_wp2_with fail
      refine hr.mono ?_
      rintro e w1 ⟨rfl, p1, k1⟩
      have gd : Gd (crB B ks) := HGd.out.crash ks
      have ec : crB B ks = ⟨none, B.md, B.g, crM ks 0 k B.ms⟩ := by unfold crB; rw [← HL.out]
      have hx : BX w0 w1 b m X F' (crB B ks) := by
        have := HX1.out.pow (B' := ⟨none, B.md, B.g, crM ks 0 k B.ms⟩) k1 p1 rfl (by rw [← ec]; exact gd)
        rw [ec]; exact this
      have q : Hid (Nz Bw w0 w w1 b (b :: m :: F) (crB B ks)) := ⟨b :: m :: F', ⟨m, X, F', rfl, hx⟩, HX2.out.trans k1.bb, HX3.out⟩
      clear p1 k1 gd ec hx hr
      go_wp2
      go_end0
      exact ⟨rfl, q.out⟩
theorem bw_crash {w0 w : World} {b : Nat} {T : List Nat} {B : BS} (h : Bw w0 w b T B) (K : Kp w0 w) (v : Value) (n : Nat) (ks : Nat → List Nat) (hv : Ks w0 w T v n ks) (hg : B.g < 1000000) : Calls Try.prog 22 #[.pointer (some ⟨b, 0, none⟩), v] w fun e w' => e = .returned (.tuple #[]) ∧ Nz Bw w0 w w' b T (crB B ks) := by
  obtain ⟨m, X, F, rfl, h1⟩ := h
  exact crash_bay h1 K v n ks hv hg

end Go.Proofs.Ytmklkdopmemfaaa
