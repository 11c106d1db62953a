/-
  Contracts of a bay's calls: step, Write, Flush, Read, Cut; and of those of a nil bay. Conditions: that the bay lies in memory.
-/
import Derived.Test.YtmklkdopmemfaaaByBay
namespace Go.Proofs.Ytmklkdopmemfaaa
open Go.RowKit Plain
set_option linter.unusedVariables false

theorem fd_no {B : BS} {i : Int} (h : fdE B i ≠ 0) : fdE B i = 11 ∧ stE B i = 11 ∧ stS B i = ⟨B.pw, B.md, B.g + 1, B.ms⟩ := by
  have h1 : fdE B i = 11 := by
    unfold fdE at h ⊢
    split
    · rename_i h2; rw [if_pos h2] at h; exact absurd rfl h
    · rfl
  have h2 : stE B i = 11 := by unfold stE; rw [if_neg h]
  exact ⟨h1, h2, by unfold stS; rw [if_neg (by rw [h2]; decide)]⟩
theorem st_no {B : BS} {i : Int} (h : fdE B i = 0) (h1 : B.pw = some 0) : stE B i = 21 ∧ stS B i = ⟨B.pw, B.md, B.g + 1, B.ms⟩ := by
  have h2 : stE B i = 21 := by unfold stE; rw [if_pos h, if_pos h1]
  exact ⟨h2, by unfold stS; rw [if_neg (by rw [h2]; decide)]⟩
theorem st_yes {B : BS} {i : Int} (h : fdE B i = 0) (h1 : B.pw ≠ some 0) : stE B i = 0 ∧ stS B i = ⟨B.pw.map (· - 1), B.md + 1, B.g + 1, B.ms⟩ := by
  have h2 : stE B i = 0 := by unfold stE; rw [if_pos h, if_neg h1]
  exact ⟨h2, by unfold stS; rw [if_pos h2]⟩
def sptr (B : BS) (X : List Nat) (i : Int) : Value := if stE B i = 0 then .pointer (some ⟨X.getD i.toNat 0, 0, none⟩) else .pointer none

set_option maxRecDepth 100000 in
theorem step_any {w0 w : World} {b m : Nat} {X F : List Nat} {B : BS} (h : BX w0 w b m X F B) (i : Int) (hg : B.g < 1000000) : Calls Try.prog 45 #[.pointer (some ⟨b, 0, none⟩), .int .i64 i] w fun e w' => e = .returned (.tuple #[sptr B X i, .int .i64 (stE B i)]) ∧ BX w0 w' b m X F (stS B i) ∧ Sp [b] w w' := by
  have hfd := find_any h i
  have gs := h.gd.st i
  unfold sptr
  by_cases hf : fdE B i = 0
  · unfold ptr at hfd
    rw [if_pos hf, hf] at hfd
    have htk := take_any h.p hg h.gd.md
    by_cases hp : B.pw = some 0
    · obtain ⟨e1, e2⟩ := st_no hf hp
      rw [e2] at gs
      rw [e1, e2, if_neg (by decide)]
      rw [hp] at htk
      simp only [if_true, ne_eq, not_true_eq_false, decide_false] at htk
      have H := hid h
      have HG := hid gs
      have HP := hid hp
      clear h gs hp hf e1 e2
      go_enter Try.func45, Try.ntmps45
      go_wp2_with fail
      refine hfd.mono ?_
      rintro e w1 ⟨rfl, rfl⟩
      go_wp2_with fail
      refine htk.mono ?_
      rintro e w2 ⟨rfl, p2, k2⟩
      have h2 : BX w0 w2 b m X F ⟨B.pw, B.md, B.g + 1, B.ms⟩ := H.out.pow k2 (by rw [HP.out]; exact p2) rfl HG.out
      have H2 := hid h2
      have K2 := hid k2
      clear h2 p2 k2
      go_wp2
      go_ret2
      exact ⟨rfl, H2.out, K2.out⟩
    · obtain ⟨e1, e2⟩ := st_yes hf hp
      rw [e2] at gs
      rw [e1, e2, if_pos rfl]
      rw [if_neg hp, decide_eq_true hp] at htk
      have H := hid h
      have HG := hid gs
      clear h gs hp hf e1 e2
      go_enter Try.func45, Try.ntmps45
      go_wp2_with fail
      refine hfd.mono ?_
      rintro e w1 ⟨rfl, rfl⟩
      go_wp2_with fail
      refine htk.mono ?_
      rintro e w2 ⟨rfl, p2, k2⟩
      have h2 : BX w0 w2 b m X F ⟨B.pw.map (· - 1), B.md + 1, B.g + 1, B.ms⟩ := H.out.pow k2 p2 rfl HG.out
      have H2 := hid h2
      have K2 := hid k2
      clear h2 p2 k2
      go_wp2
      go_ret2
      exact ⟨rfl, H2.out, K2.out⟩
  · obtain ⟨e0, e1, e2⟩ := fd_no hf
    unfold ptr at hfd
    rw [if_neg hf, e0] at hfd
    rw [e2] at gs
    rw [e1, e2, if_neg (by decide)]
    have h2 : BX w0 w b m X F ⟨B.pw, B.md, B.g + 1, B.ms⟩ := h.pow (Sp.refl _ _) h.p.more rfl gs
    have H2 := hid h2
    clear h gs hf e0 e1 e2 h2
    go_enter Try.func45, Try.ntmps45
    go_wp2_with fail
    refine hfd.mono ?_
    rintro e w1 ⟨rfl, rfl⟩
    go_wp2
    go_ret2
    exact ⟨rfl, H2.out, Sp.refl _ _⟩

/-! ### on a bay of the call's own -/
theorem bm_st (B : BS) (i : Int) : bm (stS B i) i = bm B i := by unfold bm; rw [(stS_ms B i).1]
theorem fd_st (B : BS) (i : Int) : fdE (stS B i) i = fdE B i := by unfold fdE; rw [(stS_ms B i).1]
theorem Sp.bb {w w' : World} {b : Nat} {T : List Nat} (h : Sp [b] w w') : Sp (b :: T) w w' := h.mono (fun t ht => by simp at ht; simp [ht])

theorem bw_write {w0 w : World} {b : Nat} {T : List Nat} {B : BS} (h : Bw w0 w b T B) (K : Kp w0 w) (i k : Int) (s : ByteArray) (hg : B.g < 1000000) : Calls Try.prog 16 #[.pointer (some ⟨b, 0, none⟩), .int .i64 i, .int .i64 k, .string s] w fun e w' => e = .returned (.int .i64 (opE B i (fun S => wrE S k s))) ∧ Nz Bw w0 w w' b T (opS B i (fun S => wr S k s)) := by
  obtain ⟨m, X, F, rfl, h1⟩ := h
  have hst := step_any h1 i hg
  unfold opE opS
  by_cases he : stE B i = 0
  · rw [if_pos he, if_pos he]
    unfold sptr at hst
    rw [he, if_pos rfl] at hst
    have hf := (stE_ok he).1
    have HL : Hid ((bm B i).row.length ≤ B.g) := h1.gd.rowAt hf
    have HN : ∀ t, t ∈ b :: m :: F → w0.heap.size ≤ t := h1.new
    have HR : Hid (Right (bm B i)) := h1.gd.rightAt hf
    have HF := hid hf
    clear h1 he hf
    go_enter Try.func16, Try.ntmps16
    go_wp2_with fail
    refine hst.mono ?_
    rintro e w1 ⟨rfl, h2, k2⟩
    obtain ⟨P, p1, p2, p3⟩ := h2.at (i := i) ((fd_st B i).trans HF.out)
    rw [bm_st] at p2
    have K1 : Kp w0 w1 := Sp.kp K k2.bb HN
    have hw := ow_write p2 K1 k s (by have := HL.out; omega)
    have HP3 := hid p3
    have HK2 := hid k2
    clear p1 p2 p3 h2 k2 hst HN
    go_wp2_with fail
    refine hw.mono ?_
    rintro e w3 ⟨rfl, n3⟩
    obtain ⟨T', q1, q2, q3⟩ := HP3.out w3 _ n3 (HR.out.wr k s) (by have := wr_rows k s (bm B i); have := HL.out; rw [(stS_ms B i).2]; omega)
    have Q1 := hid q1
    have Q2 : Hid (Sp (b :: m :: F) w w3) := HK2.out.bb.trans q2
    have Q3 : Hid (Nw w (b :: m :: F) T') := fun t ht => (q3 t ht).imp id (fun h => Nat.le_trans HK2.out.size h)
    clear q1 q2 q3 n3
    go_wp2
    go_ret
    exact ⟨rfl, T', Q1.out, Q2.out, Q3.out⟩
  · rw [if_neg he, if_neg he]
    unfold sptr at hst
    rw [if_neg he] at hst
    have he2 : (stE B i == 0) = false := beq_eq_false_iff_ne.2 he
    clear h1
    go_enter Try.func16, Try.ntmps16
    go_wp2_with fail
    refine hst.mono ?_
    rintro e w1 ⟨rfl, h2, k2⟩
    have H2 := hid h2
    have K2 := hid k2
    clear h2 k2
    go_wp2
    go_ret
    exact ⟨rfl, b :: m :: F, ⟨m, X, F, rfl, H2.out⟩, K2.out.bb, Nw.refl _ _⟩
theorem bw_flush {w0 w : World} {b : Nat} {T : List Nat} {B : BS} (h : Bw w0 w b T B) (K : Kp w0 w) (i : Int) (hg : B.g < 1000000) : Calls Try.prog 18 #[.pointer (some ⟨b, 0, none⟩), .int .i64 i] w fun e w' => e = .returned (.int .i64 (opE B i flE)) ∧ Nz Bw w0 w w' b T (opS B i fl) := by
  obtain ⟨m, X, F, rfl, h1⟩ := h
  have hst := step_any h1 i hg
  unfold opE opS
  by_cases he : stE B i = 0
  · rw [if_pos he, if_pos he]
    unfold sptr at hst
    rw [he, if_pos rfl] at hst
    have hf := (stE_ok he).1
    have HL : Hid ((bm B i).row.length ≤ B.g) := h1.gd.rowAt hf
    have HN : ∀ t, t ∈ b :: m :: F → w0.heap.size ≤ t := h1.new
    have HR : Hid (Right (bm B i)) := h1.gd.rightAt hf
    have HF := hid hf
    clear h1 he hf
    go_enter Try.func18, Try.ntmps18
    go_wp2_with fail
    refine hst.mono ?_
    rintro e w1 ⟨rfl, h2, k2⟩
    obtain ⟨P, p1, p2, p3⟩ := h2.at (i := i) ((fd_st B i).trans HF.out)
    rw [bm_st] at p2
    have K1 : Kp w0 w1 := Sp.kp K k2.bb HN
    have hw := ow_flush p2 K1
    have HP3 := hid p3
    have HK2 := hid k2
    clear p1 p2 p3 h2 k2 hst HN
    go_wp2_with fail
    refine hw.mono ?_
    rintro e w3 ⟨rfl, n3⟩
    obtain ⟨T', q1, q2, q3⟩ := HP3.out w3 _ n3 HR.out.fl (by have := fl_rows (bm B i); have := HL.out; rw [(stS_ms B i).2]; omega)
    have Q1 := hid q1
    have Q2 : Hid (Sp (b :: m :: F) w w3) := HK2.out.bb.trans q2
    have Q3 : Hid (Nw w (b :: m :: F) T') := fun t ht => (q3 t ht).imp id (fun h => Nat.le_trans HK2.out.size h)
    clear q1 q2 q3 n3
    go_wp2
    go_ret
    exact ⟨rfl, T', Q1.out, Q2.out, Q3.out⟩
  · rw [if_neg he, if_neg he]
    unfold sptr at hst
    rw [if_neg he] at hst
    have he2 : (stE B i == 0) = false := beq_eq_false_iff_ne.2 he
    clear h1
    go_enter Try.func18, Try.ntmps18
    go_wp2_with fail
    refine hst.mono ?_
    rintro e w1 ⟨rfl, h2, k2⟩
    have H2 := hid h2
    have K2 := hid k2
    clear h2 k2
    go_wp2
    go_ret
    exact ⟨rfl, b :: m :: F, ⟨m, X, F, rfl, H2.out⟩, K2.out.bb, Nw.refl _ _⟩
theorem bw_read {w0 w : World} {b : Nat} {T : List Nat} {B : BS} (h : Bw w0 w b T B) (K : Kp w0 w) (i k : Int) : Calls Try.prog 19 #[.pointer (some ⟨b, 0, none⟩), .int .i64 i, .int .i64 k] w fun e w' => e = .returned (.tuple #[.string (rdT B i k), .int .i64 (rdE B i k)]) ∧ Nz Bw w0 w w' b T (rdB B i k) := by
  obtain ⟨m, X, F, rfl, h1⟩ := h
  have hfd := find_any h1 i
  have hout := out_any h1.p
  have HB : Hid (Bw w0 w b (b :: m :: F) B) := ⟨m, X, F, rfl, h1⟩
  unfold rdT rdE rdB
  by_cases hf : fdE B i = 0
  · unfold ptr at hfd
    rw [if_pos hf, hf] at hfd
    by_cases hp : B.pw = some 0
    · obtain ⟨e1, _⟩ := st_no hf hp
      rw [e1, if_neg (by decide), if_neg (by decide), if_neg (by decide)]
      rw [decide_eq_true hp] at hout
      clear h1 hp hf e1
      go_enter Try.func19, Try.ntmps19
      go_wp2_with fail
      refine hfd.mono ?_
      rintro e w1 ⟨rfl, rfl⟩
      go_wp2_with fail
      refine hout.mono ?_
      rintro e w2 ⟨rfl, rfl⟩
      go_wp2
      go_ret2
      exact ⟨rfl, Nz.refl HB.out⟩
    · obtain ⟨e1, _⟩ := st_yes hf hp
      rw [e1, if_pos rfl, if_pos rfl, if_pos rfl]
      rw [decide_eq_false hp] at hout
      obtain ⟨P, p1, p2, p3⟩ := h1.at hf
      have hr := ow_read p2 K k
      have HL : Hid ((bm B i).row.length ≤ B.g) := h1.gd.rowAt hf
      have HR : Hid (Right (bm B i)) := h1.gd.rightAt hf
      have HP3 := hid p3
      clear h1 hp hf e1 p1 p2 p3
      go_enter Try.func19, Try.ntmps19
      go_wp2_with fail
      refine hfd.mono ?_
      rintro e w1 ⟨rfl, rfl⟩
      go_wp2_with fail
      refine hout.mono ?_
      rintro e w2 ⟨rfl, rfl⟩
      go_wp2_with fail
      refine hr.mono ?_
      rintro e w3 ⟨rfl, n3⟩
      have q := hid (HP3.out w3 _ n3 (HR.out.rd k) (by have := HL.out; unfold rd; split <;> exact this))
      clear n3
      go_wp2
      go_ret2
      exact ⟨rfl, q.out⟩
  · obtain ⟨e0, e1, e2⟩ := fd_no hf
    unfold ptr at hfd
    rw [if_neg hf, e0] at hfd
    rw [e1, if_neg (by decide), if_neg (by decide), if_neg (by decide)]
    clear h1 hf e0 e1 e2 hout
    go_enter Try.func19, Try.ntmps19
    go_wp2_with fail
    refine hfd.mono ?_
    rintro e w1 ⟨rfl, rfl⟩
    go_wp2
    go_ret2
    exact ⟨rfl, Nz.refl HB.out⟩
theorem bw_cut {w0 w : World} {b : Nat} {T : List Nat} {B : BS} (h : Bw w0 w b T B) (n : Int) (hn : (Lit.int .i64 n).wf = true) : Calls Try.prog 15 #[.pointer (some ⟨b, 0, none⟩), .int .i64 n] w fun e w' => e = .returned (.tuple #[]) ∧ Nz Bw w0 w w' b T (ctB B n) := by
  obtain ⟨m, X, F, rfl, h1⟩ := h
  have hs := set_any h1.p n hn
  have H1 := hid h1
  clear h1 hn
  go_enter Try.func15, Try.ntmps15
  go_wp2_with fail
  refine hs.mono ?_
  rintro e w1 ⟨rfl, p1, k1⟩
  have q : Hid (Nz Bw w0 w w1 b (b :: m :: F) (ctB B n)) := ⟨_, ⟨m, X, F, rfl, H1.out.pow k1 p1 rfl (H1.out.gd.cut n)⟩, k1.bb, Nw.refl _ _⟩
  clear p1 k1
  go_wp2
  go_end0
  exact ⟨rfl, q.out⟩
theorem bw_off {w0 w : World} {b : Nat} {T : List Nat} {B : BS} (h : Bw w0 w b T B) : Calls Try.prog 20 #[.pointer (some ⟨b, 0, none⟩)] w fun e w' => e = .returned (.bool (ofB B)) ∧ w' = w := by
  obtain ⟨m, X, F, rfl, h1⟩ := h
  exact off_any h1
theorem bw_steps {w0 w : World} {b : Nat} {T : List Nat} {B : BS} (h : Bw w0 w b T B) : Calls Try.prog 21 #[.pointer (some ⟨b, 0, none⟩)] w fun e w' => e = .returned (.int .i64 (B.md : Int)) ∧ w' = w := by
  obtain ⟨m, X, F, rfl, h1⟩ := h
  exact steps_any h1
theorem bw_size {w0 w : World} {b : Nat} {T : List Nat} {B : BS} (h : Bw w0 w b T B) : Calls Try.prog 23 #[.pointer (some ⟨b, 0, none⟩)] w fun e w' => e = .returned (.int .i64 (B.ms.length : Int)) ∧ w' = w := by
  obtain ⟨m, X, F, rfl, h1⟩ := h
  exact bsize_any h1
theorem Bw.gd {w0 w : World} {b : Nat} {T : List Nat} {B : BS} (h : Bw w0 w b T B) : Gd B := by
  obtain ⟨m, X, F, rfl, h1⟩ := h
  exact h1.gd

end Go.Proofs.Ytmklkdopmemfaaa
