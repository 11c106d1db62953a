/-
  The document's bay in memory, and contracts of its calls. Conditions: that it lies in memory.
-/
import Derived.Test.YtmklkdopmemfaaaByNil
import Derived.Test.YtmklkdopmemfaaaMmRef6
namespace Go.Proofs.Ytmklkdopmemfaaa
open Go.RowKit Plain
set_option linter.unusedVariables false

/-! ### the document's members, of the call's own -/
def Rw (w0 w : World) (r : Nat) (T : List Nat) (S : MS) : Prop := ∃ gs cap wv, T = rblk r gs wv ∧ RefIn w r gs cap wv S ∧ ∀ t, t ∈ T → w0.heap.size ≤ t
theorem OL.rw : OL Rw := ⟨fun ⟨gs, cap, wv, e, h, _⟩ => by rw [e]; exact h.low, fun ⟨gs, cap, wv, e, h, hn⟩ => hn, fun ⟨gs, cap, wv, e, h, hn⟩ k hT => ⟨gs, cap, wv, e, h.sp k (by rw [← e]; exact hT), hn⟩⟩
theorem Rd.nz {w0 w w' : World} {r gs : Nat} {wv : Value} {S : MS} (K : Kp w0 w) (hn : ∀ t, t ∈ rblk r gs wv → w0.heap.size ≤ t) (h : Rd w w' r gs wv S) : Nz Rw w0 w w' r (rblk r gs wv) S := by
  obtain ⟨gs', cap', wv', h1, h2, h3⟩ := h
  refine ⟨_, ⟨gs', cap', wv', rfl, h1, fun t ht => ?_⟩, h2, h3⟩
  rcases h3 t ht with h5 | h5
  · exact hn t h5
  · exact Nat.le_trans K.size h5
theorem rw_new (k : Int) (w0 w : World) (K : Kp w0 w) : Calls Try.prog 27 #[.int .i64 k] w fun e w' => ∃ r T, e = .returned (.pointer (some ⟨r, 0, none⟩)) ∧ Rw w0 w' r T (nw (nwN k)) ∧ Kp w w' ∧ (∀ t, t ∈ T → w.heap.size ≤ t) := by
  refine (rnew_any k w).mono ?_
  rintro e w' ⟨r, gs, cap, rfl, h1, h2, h3, h4⟩
  have hT : ∀ t, t ∈ rblk r gs (.slice none 0 0) → w.heap.size ≤ t := fun t ht => by
    simp only [rblk, Value.ownBlock, List.mem_cons] at ht
    rcases ht with rfl | rfl | ht
    · exact h3
    · exact h4
    · cases ht
  exact ⟨r, _, rfl, ⟨gs, cap, _, rfl, h1, fun t ht => Nat.le_trans K.size (hT t ht)⟩, h2, hT⟩
theorem rw_put {w0 w : World} {r : Nat} {T : List Nat} {S : MS} (h : Rw w0 w r T S) (K : Kp w0 w) (k : Int) (s : ByteArray) (hr : S.row.length < 1000000) : Calls Try.prog 61 #[.pointer (some ⟨r, 0, none⟩), .int .i64 k, .string s] w fun e w' => e = .returned (.int .i64 (wrE S k s)) ∧ Nz Rw w0 w w' r T (wr S k s) := by
  obtain ⟨gs, cap, wv, rfl, h1, h2⟩ := h
  exact (put_any h1 k s hr).mono fun e w' ⟨he, hm⟩ => ⟨he, hm.nz K h2⟩
theorem rw_read {w0 w : World} {r : Nat} {T : List Nat} {S : MS} (h : Rw w0 w r T S) (K : Kp w0 w) (k : Int) (hR : Right S) : Calls Try.prog 55 #[.pointer (some ⟨r, 0, none⟩), .int .i64 k] w fun e w' => e = .returned (.tuple #[.string (rdS S k), .int .i64 (rcE S k)]) ∧ Nz Rw w0 w w' r T (rd S k) := by
  obtain ⟨gs, cap, wv, rfl, h1, h2⟩ := h
  exact (rread_any h1 k hR).mono fun e w' ⟨he, hm⟩ => ⟨he, hm.nz K h2⟩
theorem rw_flush {w0 w : World} {r : Nat} {T : List Nat} {S : MS} (h : Rw w0 w r T S) (K : Kp w0 w) : Calls Try.prog 57 #[.pointer (some ⟨r, 0, none⟩)] w fun e w' => e = .returned (.int .i64 (flE S)) ∧ Nz Rw w0 w w' r T (fl S) := by
  obtain ⟨gs, cap, wv, rfl, h1, h2⟩ := h
  exact (rflush_any h1).mono fun e w' ⟨he, hm⟩ => ⟨he, hm.nz K h2⟩
theorem rw_fail {w0 w : World} {r : Nat} {T : List Nat} {S : MS} (h : Rw w0 w r T S) (K : Kp w0 w) : Calls Try.prog 35 #[.pointer (some ⟨r, 0, none⟩)] w fun e w' => e = .returned (.tuple #[]) ∧ Nz Rw w0 w w' r T (fa S) := by
  obtain ⟨gs, cap, wv, rfl, h1, h2⟩ := h
  exact (rfail_any h1).mono fun e w' ⟨he, hm⟩ => ⟨he, hm.nz K h2⟩
theorem rw_replace {w0 w : World} {r : Nat} {T : List Nat} {S : MS} (h : Rw w0 w r T S) (K : Kp w0 w) : Calls Try.prog 37 #[.pointer (some ⟨r, 0, none⟩)] w fun e w' => e = .returned (.tuple #[]) ∧ Nz Rw w0 w w' r T (rp S) := by
  obtain ⟨gs, cap, wv, rfl, h1, h2⟩ := h
  exact (rreplace_any h1).mono fun e w' ⟨he, hm⟩ => ⟨he, hm.nz K h2⟩
theorem rw_crash {w0 w : World} {r : Nat} {T : List Nat} {S : MS} (h : Rw w0 w r T S) (K : Kp w0 w) (v : Value) (ks : List Nat) (hk : KeIn w0 v ks) (hR : Right S) (hr : S.row.length < 1000000) : Calls Try.prog 58 #[.pointer (some ⟨r, 0, none⟩), v] w fun e w' => e = .returned (.tuple #[]) ∧ Nz Rw w0 w w' r T (cr S (bit ks)) := by
  obtain ⟨gs, cap, wv, rfl, h1, h2⟩ := h
  exact (rcrash_any h1 hR ks (hk.kp K) (hk.off h2 gs (by simp [rblk])) hr).mono fun e w' ⟨he, hm⟩ => ⟨he, hm.nz K h2⟩
theorem rw_dead {w0 w : World} {r : Nat} {T : List Nat} {S : MS} (h : Rw w0 w r T S) : w.cell? ⟨r, 2, none⟩ = some (.bool S.dead) := by
  obtain ⟨gs, cap, wv, rfl, h1, h2⟩ := h
  exact h1.c2

/-! ### the document's bay -/
def lfI : Option Nat → Int
  | none => -1
  | some k => (k : Int)
structure RX (w0 w : World) (r m cap : Nat) (X F : List Nat) (B : BS) : Prop where
  hr : r < w.heap.size
  hm : m < w.heap.size
  c0 : w.cell? ⟨r, 0, none⟩ = some (.slice (some ⟨m, 0, none⟩) B.ms.length cap)
  c1 : w.cell? ⟨r, 1, none⟩ = some (.int .i64 (B.md : Int))
  c2 : w.cell? ⟨r, 2, none⟩ = some (.int .i64 (lfI B.pw))
  z : ∀ o, w.frozen? ⟨r, o, none⟩ = false
  k1 : B.ms.length ≤ cap
  k2 : cap ≤ 9223372036854775807
  pk : ∀ k, B.pw = some k → (k : Int) ≤ 9223372036854775807
  ar : ∀ i, i < B.ms.length → w.cell? ⟨m, i, none⟩ = some (.pointer (some ⟨X.getD i 0, 0, none⟩))
  fam : Fam Rw w0 w X B.ms F
  n1 : r ∉ F
  n2 : m ∉ F
  n3 : r ≠ m
  n4 : w0.heap.size ≤ r
  n5 : w0.heap.size ≤ m
  gd : Gd B
def Dw (w0 w : World) (r : Nat) (T : List Nat) (B : BS) : Prop := ∃ m cap X F, T = r :: m :: F ∧ RX w0 w r m cap X F B
theorem RX.sp {w0 w w' : World} {r m cap : Nat} {X F : List Nat} {B : BS} (h : RX w0 w r m cap X F B) {T : List Nat} (k : Sp T w w') (hT : ∀ t, t ∈ r :: m :: F → t ∉ T) : RX w0 w' r m cap X F B := by
  have hr : r ∉ T := hT r (by simp)
  have hm : m ∉ T := hT m (by simp)
  exact ⟨Nat.lt_of_lt_of_le h.hr k.size, Nat.lt_of_lt_of_le h.hm k.size, k.held h.c0 hr, k.held h.c1 hr, k.held h.c2 hr, fun o => (k.frozen h.hr hr o).trans (h.z o), h.k1, h.k2, h.pk, fun i hi => k.held (h.ar i hi) hm, h.fam.sp OL.rw k (fun t ht => hT t (by simp [ht])), h.n1, h.n2, h.n3, h.n4, h.n5, h.gd⟩
theorem RX.low {w0 w : World} {r m cap : Nat} {X F : List Nat} {B : BS} (h : RX w0 w r m cap X F B) : ∀ t, t ∈ r :: m :: F → t < w.heap.size := fun t ht => by
  simp only [List.mem_cons] at ht
  rcases ht with rfl | rfl | ht
  · exact h.hr
  · exact h.hm
  · exact h.fam.low OL.rw t ht
theorem RX.new {w0 w : World} {r m cap : Nat} {X F : List Nat} {B : BS} (h : RX w0 w r m cap X F B) : ∀ t, t ∈ r :: m :: F → w0.heap.size ≤ t := fun t ht => by
  simp only [List.mem_cons] at ht
  rcases ht with rfl | rfl | ht
  · exact h.n4
  · exact h.n5
  · exact h.fam.new OL.rw t ht
theorem OL.dw : OL Dw := ⟨fun ⟨m, cap, X, F, e, h⟩ => by rw [e]; exact h.low, fun ⟨m, cap, X, F, e, h⟩ => by rw [e]; exact h.new, fun ⟨m, cap, X, F, e, h⟩ k hT => ⟨m, cap, X, F, e, h.sp k (by rw [← e]; exact hT)⟩⟩
/-- its own cells stored anew: the steps made, those left. -/
theorem RX.own {w0 w w' : World} {r m cap : Nat} {X F : List Nat} {B B' : BS} (h : RX w0 w r m cap X F B) (k : Sp [r] w w') (e : B'.ms = B.ms) (c0 : w'.cell? ⟨r, 0, none⟩ = w.cell? ⟨r, 0, none⟩) (c1 : w'.cell? ⟨r, 1, none⟩ = some (.int .i64 (B'.md : Int))) (c2 : w'.cell? ⟨r, 2, none⟩ = some (.int .i64 (lfI B'.pw))) (z : ∀ o, w'.frozen? ⟨r, o, none⟩ = false) (pk : ∀ k, B'.pw = some k → (k : Int) ≤ 9223372036854775807) (gd : Gd B') : RX w0 w' r m cap X F B' := by
  have hmr : m ∉ [r] := by simpa using h.n3.symm
  exact ⟨Nat.lt_of_lt_of_le h.hr k.size, Nat.lt_of_lt_of_le h.hm k.size, by rw [c0, e]; exact h.c0, c1, c2, z, by rw [e]; exact h.k1, h.k2, pk, fun i hi => k.held (h.ar i (by rw [← e]; exact hi)) hmr, by rw [e]; exact h.fam.sp OL.rw k (fun t ht => by simp; rintro rfl; exact h.n1 ht), h.n1, h.n2, h.n3, h.n4, h.n5, gd⟩
theorem RX.atX {w0 w : World} {r m cap : Nat} {X F : List Nat} {B : BS} (h : RX w0 w r m cap X F B) (i : Nat) (hi : i < B.ms.length) : ∃ P, (∀ t, t ∈ P → t ∈ F) ∧ Rw w0 w (X.getD i 0) P (B.ms.getD i noM) ∧ ∀ w' S', Nz Rw w0 w w' (X.getD i 0) P S' → Right S' → S'.row.length ≤ B.g → ∃ F', RX w0 w' r m cap X F' ⟨B.pw, B.md, B.g, B.ms.set i S'⟩ ∧ Sp F w w' ∧ Nw w F F' := by
  obtain ⟨P, p1, p2, p3⟩ := h.fam.at OL.rw noM i hi
  refine ⟨P, p1, p2, fun w' S' hn hr hl => ?_⟩
  obtain ⟨F', q1, q2, q3⟩ := p3 w' S' hn
  have hrF : r ∉ F' := fun ht => by
    rcases q3 r ht with h5 | h5
    · exact h.n1 h5
    · have := h.hr; omega
  have hmF : m ∉ F' := fun ht => by
    rcases q3 m ht with h5 | h5
    · exact h.n2 h5
    · have := h.hm; omega
  have hl2 : (B.ms.set i S').length = B.ms.length := by simp
  have gd := h.gd.put (i : Int) S' hr hl
  exact ⟨F', ⟨Nat.lt_of_lt_of_le h.hr q2.size, Nat.lt_of_lt_of_le h.hm q2.size, by show _ = some (Value.slice _ (B.ms.set i S').length cap); rw [hl2]; exact q2.held h.c0 h.n1, q2.held h.c1 h.n1, q2.held h.c2 h.n1, fun o => (q2.frozen h.hr h.n1 o).trans (h.z o), by show (B.ms.set i S').length ≤ cap; rw [hl2]; exact h.k1, h.k2, h.pk, fun j hj => q2.held (h.ar j (by rw [← hl2]; exact hj)) h.n2, q1, hrF, hmF, h.n3, h.n4, h.n5, gd⟩, q2, q3⟩
theorem RX.at {w0 w : World} {r m cap : Nat} {X F : List Nat} {B : BS} (h : RX w0 w r m cap X F B) {i : Int} (hi : fdE B i = 0) : ∃ P, (∀ t, t ∈ P → t ∈ F) ∧ Rw w0 w (X.getD i.toNat 0) P (bm B i) ∧ ∀ w' S', Nz Rw w0 w w' (X.getD i.toNat 0) P S' → Right S' → S'.row.length ≤ B.g → Nz Dw w0 w w' r (r :: m :: F) (put B i S') := by
  obtain ⟨P, p1, p2, p3⟩ := h.atX i.toNat (bm_mem hi).2.2.1
  refine ⟨P, p1, p2, fun w' S' hn hr hl => ?_⟩
  obtain ⟨F', q1, q2, q3⟩ := p3 w' S' hn hr hl
  exact ⟨r :: m :: F', ⟨m, cap, X, F', rfl, q1⟩, q2.mono (fun t ht => by simp [ht]), nw_more q3⟩
theorem RX.size {w0 w : World} {r m cap : Nat} {X F : List Nat} {B : BS} (h : RX w0 w r m cap X F B) : 1 ≤ B.ms.length ∧ B.ms.length ≤ 32 := ⟨h.gd.n1, h.gd.n2⟩
theorem lf_zero (p : Option Nat) : decide (lfI p = 0) = decide (p = some 0) := by
  cases p with
  | none => rfl
  | some k =>
    by_cases h : k = 0
    · subst h; rfl
    · rw [decide_eq_false (by show ¬ ((k : Int) = 0); omega), decide_eq_false (by intro e; cases e; exact h rfl)]

set_option maxRecDepth 100000 in
theorem rmay_any {w0 w : World} {r m cap : Nat} {X F : List Nat} {B : BS} (h : RX w0 w r m cap X F B) (i : Int) : Calls Try.prog 54 #[.pointer (some ⟨r, 0, none⟩), .int .i64 i] w fun e w' => e = .returned (.int .i64 (stE B i)) ∧ w' = w := by
  have c0 := h.c0
  have c2 := h.c2
  obtain ⟨s1, s2⟩ := h.size
  have f1 : fdE B i = if 0 ≤ i ∧ i < B.ms.length then 0 else 11 := rfl
  have l1 := lf_zero B.pw
  obtain ⟨lf, hlf⟩ : ∃ lf, lf = lfI B.pw := ⟨_, rfl⟩
  rw [← hlf] at c2 l1
  obtain ⟨n, hn⟩ : ∃ n, n = B.ms.length := ⟨_, rfl⟩
  rw [← hn] at c0 s1 s2 f1
  by_cases h0 : 0 ≤ i
  · by_cases h1 : i < n
    · rw [if_pos ⟨h0, h1⟩] at f1
      have q1 : ¬ i < 0 := by omega
      have q2 : ¬ (n : Int) ≤ i := by omega
      by_cases hp : B.pw = some 0
      · rw [(st_no f1 hp).1]
        have hl : lf = 0 := by rw [hlf, hp]; rfl
        clear h hn hlf f1 hp l1
        subst hl
        go_enter Try.func54, Try.ntmps54
        go_wp2
        go_ret
        exact ⟨rfl, rfl⟩
      · rw [(st_yes f1 hp).1]
        rw [decide_eq_false hp] at l1
        have hl : (lf == 0) = false := beq_eq_false_iff_ne.2 (of_decide_eq_false l1)
        clear h hn hlf f1 hp l1
        go_enter Try.func54, Try.ntmps54
        go_wp2
        go_ret
        exact ⟨rfl, rfl⟩
    · rw [if_neg (fun h => h1 h.2)] at f1
      have q2 : (n : Int) ≤ i := by omega
      rw [(fd_no (by rw [f1]; decide)).2.1]
      clear h hn hlf f1 l1
      go_enter Try.func54, Try.ntmps54
      go_wp2
      go_ret
      exact ⟨rfl, rfl⟩
  · rw [if_neg (fun h => h0 h.1)] at f1
    have q1 : i < 0 := by omega
    rw [(fd_no (by rw [f1]; decide)).2.1]
    clear h hn hlf f1 l1
    go_enter Try.func54, Try.ntmps54
    go_wp2
    go_ret
    exact ⟨rfl, rfl⟩

end Go.Proofs.Ytmklkdopmemfaaa

namespace Go.Proofs.Ytmklkdopmemfaaa
open Go.RowKit Plain
set_option linter.unusedVariables false

theorem lf_less {k : Nat} (h : k ≠ 0) : lfI ((some k : Option Nat).map (· - 1)) = (k : Int) - 1 := by
  show (((k - 1 : Nat)) : Int) = _
  omega
set_option maxRecDepth 100000 in
theorem rstep_any {w0 w : World} {r m cap : Nat} {X F : List Nat} {B : BS} (h : RX w0 w r m cap X F B) (hp : B.pw ≠ some 0) (hg : B.g < 1000000) : Calls Try.prog 56 #[.pointer (some ⟨r, 0, none⟩)] w fun e w' => e = .returned (.tuple #[]) ∧ RX w0 w' r m cap X F ⟨B.pw.map (· - 1), B.md + 1, B.g + 1, B.ms⟩ ∧ Sp [r] w w' := by
  have c1 := h.c1
  have c2 := h.c2
  have z1 := h.z 1
  have z2 := h.z 2
  have hmd := h.gd.md
  have gd : Gd ⟨B.pw.map (· - 1), B.md + 1, B.g + 1, B.ms⟩ := ⟨h.gd.n1, h.gd.n2, h.gd.rt, fun S hS => Nat.le_succ_of_le (h.gd.rl S hS), Nat.succ_le_succ h.gd.md⟩
  cases hpw : B.pw with
  | none =>
    rw [hpw] at c2 gd
    have k1 : Sp [r] w (w.setCell ⟨r, 1, none⟩ (.int .i64 ((B.md + 1 : Nat) : Int))) := (Sp.refl [r] w).set r 1 (by simp) _
    have h2 : RX w0 (w.setCell ⟨r, 1, none⟩ (.int .i64 ((B.md + 1 : Nat) : Int))) r m cap X F ⟨(none : Option Nat).map (· - 1), B.md + 1, B.g + 1, B.ms⟩ := h.own k1 rfl (cell_off _ _ _ _ _ (by omega)) (World.cell?_setCell_same _ _ _ c1) (by rw [cell_off _ _ _ _ _ (by omega)]; exact c2) (fun o => (World.frozen?_setCell _ _ _ _).trans (h.z o)) (fun k hk => by cases hk) gd
    have H2 := hid h2
    have K1 := hid k1
    have hle : B.md < 1000000 := by omega
    have c2' : w.cell? ⟨r, 2, none⟩ = some (.int .i64 (-1)) := c2
    obtain ⟨md, hmd2⟩ : ∃ md, md = B.md := ⟨_, rfl⟩
    rw [← hmd2] at c1 H2 K1 hle ⊢
    clear h h2 k1 hp hpw gd c2 hmd hg hmd2
    go_enter Try.func56, Try.ntmps56
    go_wp2
    go_end0
    exact ⟨rfl, H2.out, K1.out⟩
  | some k =>
    have hk0 : k ≠ 0 := fun e => hp (by rw [hpw, e])
    have hkm := h.pk k hpw
    rw [hpw] at c2 gd
    have c2' : w.cell? ⟨r, 2, none⟩ = some (.int .i64 (k : Int)) := c2
    have k0 : Sp [r] w (w.setCell ⟨r, 2, none⟩ (.int .i64 ((k : Int) - 1))) := (Sp.refl [r] w).set r 2 (by simp) _
    have k1 : Sp [r] w ((w.setCell ⟨r, 2, none⟩ (.int .i64 ((k : Int) - 1))).setCell ⟨r, 1, none⟩ (.int .i64 ((B.md + 1 : Nat) : Int))) := k0.set r 1 (by simp) _
    have d1 : (w.setCell ⟨r, 2, none⟩ (.int .i64 ((k : Int) - 1))).cell? ⟨r, 1, none⟩ = some (.int .i64 (B.md : Int)) := by rw [cell_off _ _ _ _ _ (by omega)]; exact c1
    have d2 : (w.setCell ⟨r, 2, none⟩ (.int .i64 ((k : Int) - 1))).cell? ⟨r, 2, none⟩ = some (.int .i64 (lfI ((some k : Option Nat).map (· - 1)))) := by rw [lf_less hk0]; exact World.cell?_setCell_same _ _ _ c2'
    have h2 : RX w0 ((w.setCell ⟨r, 2, none⟩ (.int .i64 ((k : Int) - 1))).setCell ⟨r, 1, none⟩ (.int .i64 ((B.md + 1 : Nat) : Int))) r m cap X F ⟨(some k : Option Nat).map (· - 1), B.md + 1, B.g + 1, B.ms⟩ := h.own k1 rfl ((cell_off _ _ _ _ _ (by omega)).trans (cell_off _ _ _ _ _ (by omega))) (World.cell?_setCell_same _ _ _ d1) (by rw [cell_off _ _ _ _ _ (by omega)]; exact d2) (fun o => (World.frozen?_setCell _ _ _ _).trans ((World.frozen?_setCell _ _ _ _).trans (h.z o))) (fun j hj => by cases hj; show ((k - 1 : Nat) : Int) ≤ _; omega) gd
    have H2 := hid h2
    have K1 := hid k1
    have hle : B.md < 1000000 := by omega
    have hkp : 0 < k := by omega
    obtain ⟨md, hmd2⟩ : ∃ md, md = B.md := ⟨_, rfl⟩
    rw [← hmd2] at c1 H2 K1 hle d1 ⊢
    clear h h2 k1 hp hpw gd c2 hmd hg hmd2 d2 hk0 k0
    go_enter Try.func56, Try.ntmps56
    go_wp2
    go_end0
    exact ⟨rfl, H2.out, K1.out⟩
theorem Dw.more {w0 w : World} {r m cap : Nat} {X F : List Nat} {B : BS} (h : RX w0 w r m cap X F B) : RX w0 w r m cap X F ⟨B.pw, B.md, B.g + 1, B.ms⟩ := ⟨h.hr, h.hm, h.c0, h.c1, h.c2, h.z, h.k1, h.k2, h.pk, h.ar, h.fam, h.n1, h.n2, h.n3, h.n4, h.n5, ⟨h.gd.n1, h.gd.n2, h.gd.rt, fun S hS => Nat.le_succ_of_le (h.gd.rl S hS), Nat.le_succ_of_le h.gd.md⟩⟩
theorem st_bad {B : BS} {i : Int} (h : stE B i ≠ 0) : stS B i = ⟨B.pw, B.md, B.g + 1, B.ms⟩ := by unfold stS; rw [if_neg h]

theorem dw_write {w0 w : World} {r : Nat} {T : List Nat} {B : BS} (h : Dw w0 w r T B) (K : Kp w0 w) (i k : Int) (s : ByteArray) (hg : B.g < 1000000) : Calls Try.prog 38 #[.pointer (some ⟨r, 0, none⟩), .int .i64 i, .int .i64 k, .string s] w fun e w' => e = .returned (.int .i64 (opE B i (fun S => wrE S k s))) ∧ Nz Dw w0 w w' r T (opS B i (fun S => wr S k s)) := by
  obtain ⟨m, cap, X, F, rfl, h1⟩ := h
  have hmay := rmay_any h1 i
  unfold opE opS
  by_cases he : stE B i = 0
  · rw [if_pos he, if_pos he]
    rw [he] at hmay
    have hf := (stE_ok he).1
    have hst := rstep_any h1 (stE_ok he).2 hg
    rw [← (st_yes hf (stE_ok he).2).2] at hst
    have HL : Hid ((bm B i).row.length ≤ B.g) := h1.gd.rowAt hf
    have HN : ∀ t, t ∈ r :: m :: F → w0.heap.size ≤ t := h1.new
    have HR : Hid (Right (bm B i)) := h1.gd.rightAt hf
    have HF := hid hf
    obtain ⟨b1, b2, b3, _⟩ := bm_mem hf
    have bl := h1.gd.n2
    have he' : (stS B i).ms.length = B.ms.length := by rw [(stS_ms B i).1]
    clear h1 he hf
    go_enter Try.func38, Try.ntmps38
    go_wp2_with fail
    refine hmay.mono ?_
    rintro e w1 ⟨rfl, rfl⟩
    go_wp2_with fail
    refine hst.mono ?_
    rintro e w2 ⟨rfl, h2, k2⟩
    obtain ⟨P, p1, p2, p3⟩ := h2.at (i := i) ((fd_st B i).trans HF.out)
    rw [bm_st] at p2
    have K1 : Kp w0 w2 := Sp.kp K k2.bb HN
    have hw := rw_put p2 K1 k s (by have := HL.out; omega)
    have c0 := h2.c0
    rw [he'] at c0
    have ar := h2.ar i.toNat (by rw [he']; exact b3)
    have kk := h2.k2
    obtain ⟨n, hn⟩ : ∃ n, n = B.ms.length := ⟨_, rfl⟩
    rw [← hn] at c0 b2 b3 bl
    obtain ⟨j, hj⟩ : ∃ j : Nat, i = (j : Int) := ⟨i.toNat, by omega⟩
    have HP3 := hid p3
    have HK2 := hid k2
    have HJ := hid hj
    rw [hj]
    rw [hj, Int.toNat_natCast] at ar hw
    have hjn : j < n := by omega
    clear p1 p2 p3 h2 k2 hst HN hn hj b1 b2 b3
    go_wp2_with fail
    refine hw.mono ?_
    rintro e w3 ⟨rfl, n3⟩
    rw [← HJ.out] at n3 ⊢
    have n3' : Nz Rw w0 w2 w3 (X.getD i.toNat 0) P (wr (bm B i) k s) := by rw [HJ.out, Int.toNat_natCast, ← HJ.out]; exact n3
    obtain ⟨T', q1, q2, q3⟩ := HP3.out w3 _ n3' (HR.out.wr k s) (by have := wr_rows k s (bm B i); have := HL.out; rw [(stS_ms B i).2]; omega)
    have Q1 := hid q1
    have Q2 : Hid (Sp (r :: m :: F) w1 w3) := HK2.out.bb.trans q2
    have Q3 : Hid (Nw w1 (r :: m :: F) T') := fun t ht => (q3 t ht).imp id (fun h => Nat.le_trans HK2.out.size h)
    clear q1 q2 q3 n3 n3'
    go_wp2
    go_ret
    exact ⟨rfl, T', Q1.out, Q2.out, Q3.out⟩
  · rw [if_neg he, if_neg he, st_bad he]
    have he2 : (stE B i == 0) = false := beq_eq_false_iff_ne.2 he
    have HD : Hid (Dw w0 w r (r :: m :: F) ⟨B.pw, B.md, B.g + 1, B.ms⟩) := ⟨m, cap, X, F, rfl, Dw.more h1⟩
    clear h1
    go_enter Try.func38, Try.ntmps38
    go_wp2_with fail
    refine hmay.mono ?_
    rintro e w1 ⟨rfl, rfl⟩
    go_wp2
    go_ret
    exact ⟨rfl, Nz.refl HD.out⟩
theorem dw_flush {w0 w : World} {r : Nat} {T : List Nat} {B : BS} (h : Dw w0 w r T B) (K : Kp w0 w) (i : Int) (hg : B.g < 1000000) : Calls Try.prog 30 #[.pointer (some ⟨r, 0, none⟩), .int .i64 i] w fun e w' => e = .returned (.int .i64 (opE B i flE)) ∧ Nz Dw w0 w w' r T (opS B i fl) := by
  obtain ⟨m, cap, X, F, rfl, h1⟩ := h
  have hmay := rmay_any h1 i
  unfold opE opS
  by_cases he : stE B i = 0
  · rw [if_pos he, if_pos he]
    rw [he] at hmay
    have hf := (stE_ok he).1
    have hst := rstep_any h1 (stE_ok he).2 hg
    rw [← (st_yes hf (stE_ok he).2).2] at hst
    have HL : Hid ((bm B i).row.length ≤ B.g) := h1.gd.rowAt hf
    have HN : ∀ t, t ∈ r :: m :: F → w0.heap.size ≤ t := h1.new
    have HR : Hid (Right (bm B i)) := h1.gd.rightAt hf
    have HF := hid hf
    obtain ⟨b1, b2, b3, _⟩ := bm_mem hf
    have bl := h1.gd.n2
    have he' : (stS B i).ms.length = B.ms.length := by rw [(stS_ms B i).1]
    clear h1 he hf
    go_enter Try.func30, Try.ntmps30
    go_wp2_with fail
    refine hmay.mono ?_
    rintro e w1 ⟨rfl, rfl⟩
    go_wp2_with fail
    refine hst.mono ?_
    rintro e w2 ⟨rfl, h2, k2⟩
    obtain ⟨P, p1, p2, p3⟩ := h2.at (i := i) ((fd_st B i).trans HF.out)
    rw [bm_st] at p2
    have K1 : Kp w0 w2 := Sp.kp K k2.bb HN
    have hw := rw_flush p2 K1
    have c0 := h2.c0
    rw [he'] at c0
    have ar := h2.ar i.toNat (by rw [he']; exact b3)
    have kk := h2.k2
    obtain ⟨n, hn⟩ : ∃ n, n = B.ms.length := ⟨_, rfl⟩
    rw [← hn] at c0 b2 b3 bl
    obtain ⟨j, hj⟩ : ∃ j : Nat, i = (j : Int) := ⟨i.toNat, by omega⟩
    have HP3 := hid p3
    have HK2 := hid k2
    have HJ := hid hj
    rw [hj]
    rw [hj, Int.toNat_natCast] at ar hw
    have hjn : j < n := by omega
    clear p1 p2 p3 h2 k2 hst HN hn hj b1 b2 b3
    go_wp2_with fail
    refine hw.mono ?_
    rintro e w3 ⟨rfl, n3⟩
    rw [← HJ.out] at n3 ⊢
    have n3' : Nz Rw w0 w2 w3 (X.getD i.toNat 0) P (fl (bm B i)) := by rw [HJ.out, Int.toNat_natCast, ← HJ.out]; exact n3
    obtain ⟨T', q1, q2, q3⟩ := HP3.out w3 _ n3' HR.out.fl (by have := fl_rows (bm B i); have := HL.out; rw [(stS_ms B i).2]; omega)
    have Q1 := hid q1
    have Q2 : Hid (Sp (r :: m :: F) w1 w3) := HK2.out.bb.trans q2
    have Q3 : Hid (Nw w1 (r :: m :: F) T') := fun t ht => (q3 t ht).imp id (fun h => Nat.le_trans HK2.out.size h)
    clear q1 q2 q3 n3 n3'
    go_wp2
    go_ret
    exact ⟨rfl, T', Q1.out, Q2.out, Q3.out⟩
  · rw [if_neg he, if_neg he, st_bad he]
    have he2 : (stE B i == 0) = false := beq_eq_false_iff_ne.2 he
    have HD : Hid (Dw w0 w r (r :: m :: F) ⟨B.pw, B.md, B.g + 1, B.ms⟩) := ⟨m, cap, X, F, rfl, Dw.more h1⟩
    clear h1
    go_enter Try.func30, Try.ntmps30
    go_wp2_with fail
    refine hmay.mono ?_
    rintro e w1 ⟨rfl, rfl⟩
    go_wp2
    go_ret
    exact ⟨rfl, Nz.refl HD.out⟩

theorem dw_read {w0 w : World} {r : Nat} {T : List Nat} {B : BS} (h : Dw w0 w r T B) (K : Kp w0 w) (i k : Int) : Calls Try.prog 29 #[.pointer (some ⟨r, 0, none⟩), .int .i64 i, .int .i64 k] w fun e w' => e = .returned (.tuple #[.string (rdT B i k), .int .i64 (rdE B i k)]) ∧ Nz Dw w0 w w' r T (rdB B i k) := by
  obtain ⟨m, cap, X, F, rfl, h1⟩ := h
  have hmay := rmay_any h1 i
  have HD : Hid (Dw w0 w r (r :: m :: F) B) := ⟨m, cap, X, F, rfl, h1⟩
  unfold rdT rdE rdB
  by_cases he : stE B i = 0
  · rw [if_pos he, if_pos he, if_pos he]
    rw [he] at hmay
    have hf := (stE_ok he).1
    obtain ⟨P, p1, p2, p3⟩ := h1.at hf
    have HL : Hid ((bm B i).row.length ≤ B.g) := h1.gd.rowAt hf
    have HR : Hid (Right (bm B i)) := h1.gd.rightAt hf
    have hw := rw_read p2 K k HR.out
    obtain ⟨b1, b2, b3, _⟩ := bm_mem hf
    have bl := h1.gd.n2
    have c0 := h1.c0
    have ar := h1.ar i.toNat b3
    have kk := h1.k2
    obtain ⟨n, hn⟩ : ∃ n, n = B.ms.length := ⟨_, rfl⟩
    rw [← hn] at c0 b2 b3 bl
    obtain ⟨j, hj⟩ : ∃ j : Nat, i = (j : Int) := ⟨i.toNat, by omega⟩
    have HP3 := hid p3
    have HJ := hid hj
    rw [hj]
    rw [hj, Int.toNat_natCast] at ar hw
    rw [hj] at hmay
    have hjn : j < n := by omega
    clear p1 p2 p3 h1 he hf hn hj b1 b2 b3
    go_enter Try.func29, Try.ntmps29
    go_wp2_with fail
    refine hmay.mono ?_
    rintro e w1 ⟨rfl, rfl⟩
    go_wp2_with fail
    refine hw.mono ?_
    rintro e w3 ⟨rfl, n3⟩
    have n3' : Nz Rw w0 w1 w3 (X.getD i.toNat 0) P (rd (bm B i) k) := by rw [HJ.out, Int.toNat_natCast]; exact n3
    have q := hid (HP3.out w3 _ n3' (HR.out.rd k) (by have := HL.out; unfold rd; split <;> exact this))
    rw [HJ.out] at q
    clear n3 n3'
    go_wp2
    go_ret2
    exact ⟨rfl, q.out⟩
  · rw [if_neg he, if_neg he, if_neg he]
    have he2 : (stE B i == 0) = false := beq_eq_false_iff_ne.2 he
    clear h1
    go_enter Try.func29, Try.ntmps29
    go_wp2_with fail
    refine hmay.mono ?_
    rintro e w1 ⟨rfl, rfl⟩
    go_wp2
    go_ret2
    exact ⟨rfl, Nz.refl HD.out⟩
theorem dw_cut {w0 w : World} {r : Nat} {T : List Nat} {B : BS} (h : Dw w0 w r T B) (n : Int) (hn : (Lit.int .i64 n).wf = true) : Calls Try.prog 31 #[.pointer (some ⟨r, 0, none⟩), .int .i64 n] w fun e w' => e = .returned (.tuple #[]) ∧ Nz Dw w0 w w' r T (ctB B n) := by
  obtain ⟨m, cap, X, F, rfl, h1⟩ := h
  have hb := bounds_i64 hn
  have c2 := h1.c2
  have z2 := h1.z 2
  have fin : ∀ x : Int, x = (n.toNat : Int) → Nz Dw w0 w (w.setCell ⟨r, 2, none⟩ (.int .i64 x)) r (r :: m :: F) (ctB B n) := fun x hx => by
    have k1 : Sp [r] w (w.setCell ⟨r, 2, none⟩ (.int .i64 x)) := (Sp.refl [r] w).set r 2 (by simp) _
    refine ⟨r :: m :: F, ⟨m, cap, X, F, rfl, h1.own k1 rfl (cell_off _ _ _ _ _ (by omega)) (by rw [cell_off _ _ _ _ _ (by omega)]; exact h1.c1) ?_ (fun o => (World.frozen?_setCell _ _ _ _).trans (h1.z o)) (fun j hj => by cases hj; omega) (h1.gd.cut n)⟩, k1.bb, Nw.refl _ _⟩
    rw [World.cell?_setCell_same _ _ _ c2, hx]
    rfl
  by_cases h0 : n < 0
  · have q := hid (fin 0 (by omega))
    clear h1 fin hn hb
    go_enter Try.func31, Try.ntmps31
    go_wp2
    go_end0
    exact ⟨rfl, q.out⟩
  · have q := hid (fin n (by omega))
    clear h1 fin hn hb
    go_enter Try.func31, Try.ntmps31
    go_wp2
    go_end0
    exact ⟨rfl, q.out⟩
theorem Dw.gd {w0 w : World} {r : Nat} {T : List Nat} {B : BS} (h : Dw w0 w r T B) : Gd B := by
  obtain ⟨m, cap, X, F, rfl, h1⟩ := h
  exact h1.gd

end Go.Proofs.Ytmklkdopmemfaaa

namespace Go.Proofs.Ytmklkdopmemfaaa
open Go.RowKit Plain
set_option linter.unusedVariables false

theorem RX.deadAt {w0 w : World} {r m cap : Nat} {X F : List Nat} {B : BS} (h : RX w0 w r m cap X F B) (i : Nat) (hi : i < B.ms.length) : w.cell? ⟨X.getD i 0, 2, none⟩ = some (.bool (B.ms.getD i noM).dead) := by
  obtain ⟨P, p1, p2, p3⟩ := h.atX i hi
  exact rw_dead p2
theorem RX.kp {w0 w w' : World} {r m cap : Nat} {X F : List Nat} {B : BS} (h : RX w0 w r m cap X F B) (k : Kp w w') : RX w0 w' r m cap X F B := h.sp (k.sp []) (fun _ _ h => by cases h)
set_option maxRecDepth 100000 in
set_option maxHeartbeats 1000000 in
theorem rlive_any {w0 w : World} {r m cap : Nat} {X F : List Nat} {B : BS} (h : RX w0 w r m cap X F B) : Calls Try.prog 28 #[.pointer (some ⟨r, 0, none⟩)] w fun e w' => ∃ v, e = .returned v ∧ Lv w w' v (lvL 0 B.ms) ∧ Kp w w' := by
  obtain ⟨s1, s2⟩ := h.size
  have kk := h.k2
  have kk1 := h.k1
  obtain ⟨n, hn⟩ : ∃ n, n = B.ms.length := ⟨_, rfl⟩
  rw [← hn] at s1 s2 kk1
  have HN := hid hn
  have H := hid h
  clear hn h
  go_enter Try.func28, Try.ntmps28
  go_wp2_with fail
  go_loopw [3, 4] (fun v i wr => ∃ k : Nat, k ≤ n ∧ i = .int .i64 k ∧ Hid (OR wr w.heap.size 3 v (vn (lvL 0 (B.ms.take k)))) ∧ Hid (Kp w wr)) (fun _ i _ => n - (intOf i).toNat)
  case atStart => exact ⟨0, by omega, by go_num, World.ownsRow_nil _ _ _ _, Kp.refl w⟩
  case round =>
    obtain ⟨k, hk, rfl, HO, HS⟩ := hrel
    have hX := H.out.kp HS.out
    have c0 := hX.c0
    rw [← HN.out] at c0
    by_cases hlt : k < n
    · have hk2 : k < B.ms.length := by rw [← HN.out]; exact hlt
      have ar := hX.ar k hk2
      have da := hX.deadAt k hk2
      obtain ⟨x, hx⟩ : ∃ x, x = X.getD k 0 := ⟨_, rfl⟩
      rw [← hx] at ar da
      clear hX hx
      cases hdd : (B.ms.getD k noM).dead with
      | true =>
        rw [hdd] at da
        have e1 := lv_less B.ms k hk2 hdd
        have HO2 : Hid (OR wr w.heap.size 3 u3 (vn (lvL 0 (B.ms.take (k + 1))))) := by rw [e1]; exact HO
        clear e1 hdd HO
        go_wp2
        go_roundw
        case rel => exact ⟨k + 1, by omega, by go_num, HO2, HS⟩
        case measure => simp [intOf]; omega
      | false =>
        rw [hdd] at da
        have e1 := lv_more B.ms k hk2 hdd
        have HL : Hid ((vn (lvL 0 (B.ms.take k))).length ≤ 32) := by
          have := lvL_len (B.ms.take k) 0
          rw [List.length_take] at this
          show (vn (lvL 0 (B.ms.take k))).length ≤ 32
          rw [vn_len]; omega
        have hs1 := HS.out.size
        have HE := hid e1
        clear e1 hdd
        go_wp2_with (at_builtin; refine wpList_append_or rfl _ _ 58 3 (.int .i64 0) 8 Try.underlying58 info_int rfl (by omega) rfl w.heap.size _ _ rfl (HO.out.kp ((Kp.refl wr).alloc (.cells #[.int .i64 (k : Int)] 3))) (.int .i64 (k : Int)) rfl _ rfl (by rw [World.cell?_alloc_at _ _ _ _ rfl]; rfl) (by have := HL.out; omega) (by simp; omega) ?_)
        intro v' w3 ho3 hg3
        have HO3 : Hid (OR w3 w.heap.size 3 v' (vn (lvL 0 (B.ms.take (k + 1))))) := by rw [HE.out]; exact ho3
        have HS3 : Hid (Kp w w3) := (HS.out.alloc _).grown hg3 (fun q hq => (World.ownsRow.lt HO.out q hq).1)
        clear ho3 hg3 HO HS HE HL ar da c0
        go_wp2
        go_roundw
        case rel => exact ⟨k + 1, by omega, by go_num, HO3, HS3⟩
        case measure => simp [intOf]; omega
    · obtain rfl : k = n := by omega
      clear hX
      go_wp2
      go_ret
      refine ⟨_, rfl, ?_, HS.out⟩
      have := Lv.of HO.out
      rw [List.take_of_length_le (by rw [HN.out]; omega)] at this
      exact this
theorem dw_live {w0 w : World} {r : Nat} {T : List Nat} {B : BS} (h : Dw w0 w r T B) : Calls Try.prog 28 #[.pointer (some ⟨r, 0, none⟩)] w fun e w' => ∃ v, e = .returned v ∧ Lv w w' v (lvL 0 B.ms) ∧ Kp w w' := by
  obtain ⟨m, cap, X, F, rfl, h1⟩ := h
  exact rlive_any h1

/-! ### Crash -/
def Cr (w0 w wr : World) (r m cap : Nat) (X F : List Nat) (B : BS) (ks : Nat → List Nat) (k : Nat) : Prop := ∃ F', RX w0 wr r m cap X F' ⟨B.pw, B.md, B.g, crM ks 0 k B.ms⟩ ∧ Sp (r :: m :: F) w wr ∧ Nw w (r :: m :: F) (r :: m :: F')
theorem Cr.step {w0 w wr : World} {r m cap : Nat} {X F : List Nat} {B : BS} {ks : Nat → List Nat} {k : Nat} (h : Cr w0 w wr r m cap X F B ks k) (K : Kp w0 w) (hN : ∀ t, t ∈ r :: m :: F → w0.heap.size ≤ t) (hk : k < B.ms.length) (hg : B.g < 1000000) (v : Value) (hv : KeIn w0 v (ks k)) : Calls Try.prog 58 #[.pointer (some ⟨X.getD k 0, 0, none⟩), v] wr fun e w' => e = .returned (.tuple #[]) ∧ Cr w0 w w' r m cap X F B ks (k + 1) := by
  obtain ⟨F', h1, h2, h3⟩ := h
  have K1 : Kp w0 wr := Sp.kp K h2 hN
  have hl : (crM ks 0 k B.ms).length = B.ms.length := crM_len _ _ _ _
  obtain ⟨P, p1, p2, p3⟩ := h1.atX k (by show k < (crM ks 0 k B.ms).length; rw [hl]; exact hk)
  have e : (crM ks 0 k B.ms).getD k noM = B.ms.getD k noM := by
    rw [crM_at ks B.ms 0 k k hk, if_neg (by omega)]
  have p2' : Rw w0 wr (X.getD k 0) P (B.ms.getD k noM) := by rw [← e]; exact p2
  have hin : B.ms.getD k noM ∈ crM ks 0 k B.ms := by
    rw [← e]
    rw [List.getD_eq_getElem?_getD, List.getElem?_eq_getElem (by rw [hl]; exact hk)]
    exact List.getElem_mem _
  have hrl : (B.ms.getD k noM).row.length < 1000000 := by
    have h9 : (B.ms.getD k noM).row.length ≤ B.g := h1.gd.rl _ hin
    omega
  refine (rw_crash p2' K1 v (ks k) hv (h1.gd.rt _ hin) hrl).mono fun e' w' ⟨he, hn⟩ => ⟨he, ?_⟩
  obtain ⟨F2, q1, q2, q3⟩ := p3 w' _ hn (Right.cr _) (Nat.le_trans (cr_row _ _) (Nat.zero_le _))
  refine ⟨F2, ?_, h2.then (q2.mono (fun t ht => by simp [ht])) h3, h3.trans (nw_more q3) h2.size⟩
  have em := crM_more ks B.ms 0 k hk
  rw [Nat.zero_add] at em
  rw [em]
  exact q1
set_option maxRecDepth 100000 in
set_option maxHeartbeats 1000000 in
theorem rcrash_bay {w0 w : World} {r m cap : Nat} {X F : List Nat} {B : BS} (h : RX w0 w r m cap X F B) (K : Kp w0 w) (v : Value) (n : Nat) (ks : Nat → List Nat) (hv : Ks w0 w (r :: m :: F) v n ks) (hg : B.g < 1000000) : Calls Try.prog 33 #[.pointer (some ⟨r, 0, none⟩), v] w fun e w' => e = .returned (.tuple #[]) ∧ Nz Dw w0 w w' r (r :: m :: F) (crB B ks) := by
  obtain ⟨s1, s2⟩ := h.size
  have HN : Hid (∀ t, t ∈ r :: m :: F → w0.heap.size ≤ t) := h.new
  have H0 : Hid (Cr w0 w w r m cap X F B ks 0) := ⟨F, by rw [crM_none _ _ _ _ (Nat.le_refl _)]; exact h, Sp.refl _ _, Nw.refl _ _⟩
  have HGd := hid h.gd
  have kk := h.k2
  have kk1 := h.k1
  obtain ⟨N, hNN⟩ : ∃ N, N = B.ms.length := ⟨_, rfl⟩
  rw [← hNN] at s1 s2 kk1
  have HL := hid hNN
  obtain ⟨a, g, off, cap2, rfl, v1, v2, v3, v4⟩ := hv.h
  have HZ := hid hv.z
  have HV3 := hid v3
  have HV4 := hid v4
  clear h hNN hv v3 v4
  go_enter Try.func33, Try.ntmps33
  go_wp2_with fail
  go_loopw [4] (fun i wr => ∃ k : Nat, k ≤ N ∧ i = .int .i64 k ∧ Hid (Cr w0 w wr r m cap X F B ks k)) (fun i _ => N - (intOf i).toNat)
  case atStart => exact ⟨0, by omega, by go_num, H0⟩
  case round =>
    clear H0
    obtain ⟨k, hk, rfl, HC⟩ := hrel
    have c0 : wr.cell? ⟨r, 0, none⟩ = some (.slice (some ⟨m, 0, none⟩) N cap) := by
      obtain ⟨F', x1, _⟩ := HC.out
      have := x1.c0
      rw [show (⟨B.pw, B.md, B.g, crM ks 0 k B.ms⟩ : BS).ms.length = N from (crM_len _ _ _ _).trans HL.out.symm] at this
      exact this
    by_cases hlt : k < N
    · have hk2 : k < B.ms.length := by rw [← HL.out]; exact hlt
      have ar : wr.cell? ⟨m, k, none⟩ = some (.pointer (some ⟨X.getD k 0, 0, none⟩)) := by
        obtain ⟨F', x1, _⟩ := HC.out
        exact x1.ar k (by show k < (crM ks 0 k B.ms).length; rw [crM_len]; exact hk2)
      by_cases hkn : k < n
      · obtain ⟨rfl, hgl, hgT⟩ := HV3.out (by omega)
        obtain ⟨u, hu, hke⟩ := HV4.out k hkn
        have hu2 : wr.cell? ⟨g, off + k, none⟩ = some u := by
          obtain ⟨F', _, x2, _⟩ := HC.out
          exact x2.held hu hgT
        have hc := Cr.step HC.out K HN.out hk2 hg u hke
        obtain ⟨x, hx⟩ : ∃ x, x = X.getD k 0 := ⟨_, rfl⟩
        rw [← hx] at ar hc
        obtain ⟨ua, uc, hua, _⟩ := hke.h
        have hun : ∃ un, un = (ks k).length := ⟨_, rfl⟩
        obtain ⟨un, hun⟩ := hun
        rw [← hun] at hua
        subst hua
        clear hu hke hgl hgT HC hk2 hx hun
        go_wp2_with fail
        refine hc.mono ?_
        rintro e w1 ⟨rfl, q1⟩
        have Q1 := hid q1
        clear q1 hc ar c0 hu2
        go_wp2
        go_roundw
        case rel => exact ⟨k + 1, by omega, by go_num, Q1⟩
        case measure => simp [intOf]; omega
      · have hke : KeIn w0 (.slice none 0 0) (ks k) := by rw [HZ.out k (by omega)]; exact ke_nil w0
        have hc := Cr.step HC.out K HN.out hk2 hg _ hke
        have hkn2 : ¬ (k : Int) < (n : Int) := by omega
        obtain ⟨x, hx⟩ : ∃ x, x = X.getD k 0 := ⟨_, rfl⟩
        rw [← hx] at ar hc
        clear hke HC hk2 hx
        go_wp2_with fail
        refine hc.mono ?_
        rintro e w1 ⟨rfl, q1⟩
        have Q1 := hid q1
        clear q1 hc ar c0
        go_wp2
        go_roundw
        case rel => exact ⟨k + 1, by omega, by go_num, Q1⟩
        case measure => simp [intOf]; omega
    · obtain rfl : k = N := by omega
      obtain ⟨F', x1, x2, x3⟩ := HC.out
      have c2 := x1.c2
      have z2 := x1.z 2
      have gd : Gd (crB B ks) := HGd.out.crash ks
      have ec : crB B ks = ⟨none, B.md, B.g, crM ks 0 k B.ms⟩ := by unfold crB; rw [← HL.out]
      have k1 : Sp [r] wr (wr.setCell ⟨r, 2, none⟩ (.int .i64 (-1))) := (Sp.refl [r] wr).set r 2 (by simp) _
      have hx : RX w0 (wr.setCell ⟨r, 2, none⟩ (.int .i64 (-1))) r m cap X F' (crB B ks) := by
        rw [ec]
        exact x1.own k1 rfl (cell_off _ _ _ _ _ (by omega)) (by rw [cell_off _ _ _ _ _ (by omega)]; exact x1.c1) (World.cell?_setCell_same _ _ _ c2) (fun o => (World.frozen?_setCell _ _ _ _).trans (x1.z o)) (fun k hk => by cases hk) (by rw [← ec]; exact gd)
      have q : Hid (Nz Dw w0 w (wr.setCell ⟨r, 2, none⟩ (.int .i64 (-1))) r (r :: m :: F) (crB B ks)) := ⟨r :: m :: F', ⟨m, cap, X, F', rfl, hx⟩, x2.trans k1.bb, x3⟩
      obtain ⟨y, hy⟩ : ∃ y, y = lfI B.pw := ⟨_, rfl⟩
      have c2' : wr.cell? ⟨r, 2, none⟩ = some (.int .i64 y) := by rw [hy]; exact c2
      clear k1 gd ec hx x1 x2 x3 c2 hy HC
      go_wp2
      go_end0
      exact ⟨rfl, q.out⟩
theorem dw_crash {w0 w : World} {r : Nat} {T : List Nat} {B : BS} (h : Dw w0 w r T B) (K : Kp w0 w) (v : Value) (n : Nat) (ks : Nat → List Nat) (hv : Ks w0 w T v n ks) (hg : B.g < 1000000) : Calls Try.prog 33 #[.pointer (some ⟨r, 0, none⟩), v] w fun e w' => e = .returned (.tuple #[]) ∧ Nz Dw w0 w w' r T (crB B ks) := by
  obtain ⟨m, cap, X, F, rfl, h1⟩ := h
  exact rcrash_bay h1 K v n ks hv hg

end Go.Proofs.Ytmklkdopmemfaaa

namespace Go.Proofs.Ytmklkdopmemfaaa
open Go.RowKit Plain
set_option linter.unusedVariables false

theorem wpList_append_or2 {w : World} {ops : Array Oper} {rest : List Oper} {o : Oper} {a : Act} {Q : Exit → Act → World → Prop} (hgd : o.guard = none) (s x : Operand) (t e : TypeId) (z : Value) (bytes : Nat) (ht : Try.prog.underlying t = some (.slice e))
    (hinfo : (Try.prog.info? e).map (fun i => (i.zero, i.size, i.bytes)) = some (some z, 1, bytes)) (hzs : z.cells.size = 1) (hby : bytes ≤ 64)
    (ho : o.op = .call { callee := .builtin .append, args := #[s, x], argTypes := #[t, t] })
    (base : Nat) (v : Value) (xs : List Value) (hs : a.eval s = v) (hown : OR w base e v xs) (p : Value) (hp : p.oneCell' = true) (k : Nat) (hx : a.eval x = .slice (some ⟨k, 0, none⟩) 1 1) (hc : w.cell? ⟨k, 0, none⟩ = some p)
    (hlen : xs.length + 1 ≤ 1099511627776) (hbase : base ≤ w.heap.size)
    (h : ∀ v' w', OR w' base e v' (xs ++ [p]) → w.grownBy w' v.ownBlock → (v'.ownBlock = v.ownBlock ∨ v'.ownBlock = some w.heap.size) → wpList Try.prog ops Q rest (a.put o.dst v') w') : wpList Try.prog ops Q (o :: rest) a w := by
  obtain ⟨i0, hi, hz0, hz1, hz2⟩ := info_parts hinfo
  refine wpList_append_own_at w hgd s x t ho base e i0 z 1 bytes ht hi hz0 hz1 hz2 hzs (by decide) v xs.length xs hs hown ⟨k, 0, none⟩ 1 1 [p] hx rfl ?_ (by simpa using hp) (by unfold maxLen; omega) ?_ hbase (fun v' w' h1 h2 _ h4 => h v' w' ?_ h2 h4)
  · intro j u hj
    match j, hj with
    | 0, hj => simp at hj; subst hj; simpa [Addr.add] using hc
  · have h1 : (xs.length + 1) * bytes ≤ (xs.length + 1) * 64 := Nat.mul_le_mul_left _ hby
    omega
  · unfold OR
    rw [List.length_append]
    exact h1
theorem info_rp : (Try.prog.info? 36).map (fun i => (i.zero, i.size, i.bytes)) = some (some (.pointer none), 1, 8) := by kernel_rfl
def pv (X : List Nat) : List Value := X.map (fun (x : Nat) => Value.pointer (some ⟨x, 0, none⟩))
theorem pv_len (X : List Nat) : (pv X).length = X.length := by simp [pv]
theorem pv_at (X : List Nat) (j : Nat) (h : j < X.length) : (pv X)[j]? = some (.pointer (some ⟨X.getD j 0, 0, none⟩)) := by
  simp [pv, h]
theorem pv_app (X : List Nat) (x : Nat) : pv (X ++ [x]) = pv X ++ [.pointer (some ⟨x, 0, none⟩)] := by simp [pv]
/-- the document's bay whose first k members are made. -/
structure NwR (w0 w wr : World) (r k : Nat) (v : Value) (X F : List Nat) (S : MS) : Prop where
  hr : r < wr.heap.size
  c0 : wr.cell? ⟨r, 0, none⟩ = some v
  c1 : wr.cell? ⟨r, 1, none⟩ = some (.int .i64 0)
  c2 : wr.cell? ⟨r, 2, none⟩ = some (.int .i64 (-1))
  z : ∀ o, wr.frozen? ⟨r, o, none⟩ = false
  o : OR wr w.heap.size 36 v (pv X)
  fam : Fam Rw w0 wr X (List.replicate k S) F
  n1 : r ∉ F
  n2 : ∀ g, v.ownBlock = some g → g ∉ F ∧ g ≠ r
  hrw : w.heap.size ≤ r
  fn : ∀ t, t ∈ F → w.heap.size ≤ t
  kp : Kp w wr
theorem NwR.len {w0 w wr : World} {r k : Nat} {v : Value} {X F : List Nat} {S : MS} (h : NwR w0 w wr r k v X F S) : X.length = k := by
  have := h.fam.len
  simpa using this
theorem NwR.more {w0 w wr : World} {r k : Nat} {v : Value} {X F : List Nat} {S : MS} (h : NwR w0 w wr r k v X F S) {w1 w3 : World} {x : Nat} {P : List Nat} {v' : Value} {ob : Obj} (ho : Rw w0 w1 x P S) (k1 : Kp wr w1) (hP : ∀ t, t ∈ P → wr.heap.size ≤ t) (h3 : OR w3 w.heap.size 36 v' (pv X ++ [.pointer (some ⟨x, 0, none⟩)])) (hg : (w1.alloc ob).grownBy w3 v.ownBlock) (hb : v'.ownBlock = v.ownBlock ∨ v'.ownBlock = some (w1.heap.size + 1)) : NwR w0 w (w3.setCell ⟨r, 0, none⟩ v') r (k + 1) v' (X ++ [x]) (F ++ P) S := by
  have s13 : Sp v.ownBlock.toList w1 w3 := (((Kp.refl w1).alloc ob).sp _).trans (Sp.grown hg)
  have e0 := k1.sp []
  have hbl : ∀ g, g ∈ v.ownBlock.toList → g ∉ F ∧ g ≠ r ∧ g ∉ P := fun g hm => by
    have hm2 : v.ownBlock = some g := by simpa using hm
    obtain ⟨h5, h6⟩ := h.n2 g hm2
    refine ⟨h5, h6, fun hp => ?_⟩
    have h7 := (World.ownsRow.lt h.o g hm2).2
    have := hP g hp
    omega
  have hrv : r ∉ v.ownBlock.toList := fun hm => (hbl r hm).2.1 rfl
  have hrP : r ∉ P := fun hm => by have := hP r hm; have := h.hr; omega
  have sz1 : wr.heap.size ≤ w1.heap.size := k1.size
  have hr1 : r < w1.heap.size := Nat.lt_of_lt_of_le h.hr sz1
  have hr3 : r < w3.heap.size := Nat.lt_of_lt_of_le hr1 s13.size
  have dj : Dj F P := fun t ht ht2 => by have := h.fam.low OL.rw t ht; have := hP t ht2; omega
  have fam1 : Fam Rw w0 w1 X (List.replicate k S) F := h.fam.kp OL.rw k1
  have fam2 := Fam.snoc OL.rw ho fam1 dj
  rw [show List.replicate k S ++ [S] = List.replicate (k + 1) S from by rw [List.replicate_succ']] at fam2
  have low2 := fam2.low OL.rw
  have fam3 : Fam Rw w0 w3 (X ++ [x]) (List.replicate (k + 1) S) (F ++ P) := fam2.sp OL.rw s13 (fun t ht hm => by
    obtain ⟨h5, h6, h7⟩ := hbl t hm
    rcases List.mem_append.1 ht with h8 | h8
    · exact h5 h8
    · exact h7 h8)
  have q : Sp [r] w3 (w3.setCell ⟨r, 0, none⟩ v') := (Sp.refl [r] w3).set r 0 (by simp) _
  have hv' : ∀ g, v'.ownBlock = some g → g ∉ F ++ P ∧ g ≠ r := fun g hm => by
    rcases hb with e | e
    · rw [e] at hm
      obtain ⟨h5, h6, h7⟩ := hbl g (by simpa using hm)
      exact ⟨fun h8 => by rcases List.mem_append.1 h8 with h9 | h9; exact h5 h9; exact h7 h9, h6⟩
    · rw [e] at hm
      simp only [Option.some.injEq] at hm
      exact ⟨fun h8 => by have := low2 g h8; omega, by omega⟩
  have c0' : w3.cell? ⟨r, 0, none⟩ = some v := s13.held (e0.held h.c0 (by simp)) hrv
  have n1' : r ∉ F ++ P := fun h8 => by
    rcases List.mem_append.1 h8 with h9 | h9
    · exact h.n1 h9
    · exact hrP h9
  refine ⟨Nat.lt_of_lt_of_le hr3 q.size, World.cell?_setCell_same _ _ _ c0', ?_, ?_, fun o => (World.frozen?_setCell _ _ _ _).trans ((s13.frozen hr1 hrv o).trans ((e0.frozen h.hr (by simp) o).trans (h.z o))), ?_, fam3.sp OL.rw q (fun t ht => by simp; rintro rfl; exact n1' ht), n1', hv', h.hrw, fun t ht => ?_, ?_⟩
  · rw [cell_off _ _ _ _ _ (by omega)]; exact s13.held (e0.held h.c1 (by simp)) hrv
  · rw [cell_off _ _ _ _ _ (by omega)]; exact s13.held (e0.held h.c2 (by simp)) hrv
  · rw [pv_app]
    exact q.own h3 (fun g hg2 hm => (hv' g hg2).2 (by simpa using hm))
  · rcases List.mem_append.1 ht with h5 | h5
    · exact h.fn t h5
    · exact Nat.le_trans h.kp.size (hP t h5)
  · have K1 : Kp w w1 := h.kp.trans k1
    have K3 : Kp w w3 := (K1.alloc ob).grown hg (fun g hm => (World.ownsRow.lt h.o g hm).1)
    exact Kp.set K3 r 0 h.hrw _
theorem NwR.start {w0 w : World} {S : MS} : NwR w0 w (w.alloc (.cells #[.slice none 0 0, .int .i64 0, .int .i64 (-1)] 35)) w.heap.size 0 (.slice none 0 0) [] [] S := by
  have hc : ∀ i, (w.alloc (.cells #[.slice none 0 0, .int .i64 0, .int .i64 (-1)] 35)).cell? ⟨w.heap.size, i, none⟩ = (#[.slice none 0 0, .int .i64 0, .int .i64 (-1)] : Array Value)[i]? := fun i => World.cell?_alloc_at _ _ _ i rfl
  exact ⟨by simp, hc 0, hc 1, hc 2, fun o => World.frozen?_alloc_at _ _ _ o rfl, World.ownsRow_nil _ _ _ _, rfl, by simp, fun g hg => (by cases hg), Nat.le_refl _, fun t ht => (by cases ht), (Kp.refl w).alloc _⟩

theorem NwR.fin {w0 w wr : World} {r n : Nat} {v : Value} {X F : List Nat} {S : MS} (h : NwR w0 w wr r n v X F S) (K : Kp w0 w) (e2 : 1 ≤ n) (gd : Gd ⟨none, 0, 0, List.replicate n S⟩) : ∃ r' T, (.returned (.pointer (some ⟨r, 0, none⟩)) : Ending) = .returned (.pointer (some ⟨r', 0, none⟩)) ∧ Dw w0 wr r' T ⟨none, 0, 0, List.replicate n S⟩ ∧ Kp w wr ∧ (∀ t, t ∈ T → w.heap.size ≤ t) := by
  have hl : (List.replicate n S).length = n := by simp
  have hx := h.len
  obtain ⟨a, g, cap, h1, h2, h3, h4, h5⟩ := h.o.shape
  rw [pv_len, hx] at h1 h2 h4 h5
  obtain ⟨rfl, g1, g2⟩ := h4 (by omega)
  have hb : v.ownBlock = some g := by rw [h1]; rfl
  obtain ⟨n5, n6⟩ := h.n2 g hb
  refine ⟨r, r :: g :: F, rfl, ⟨g, cap, X, F, rfl, ⟨h.hr, g2, by rw [hl, ← h1]; exact h.c0, h.c1, h.c2, h.z, by rw [hl]; exact h2, h3, fun k hk => (by cases hk), fun i hi => ?_, h.fam, h.n1, n5, fun e => n6 e.symm, Nat.le_trans K.size h.hrw, Nat.le_trans K.size g1, gd⟩⟩, h.kp, fun t ht => ?_⟩
  · have hi2 : i < n := by rw [← hl]; exact hi
    rw [h5 i hi2]
    exact pv_at X i (by omega)
  · simp only [List.mem_cons] at ht
    rcases ht with rfl | rfl | ht
    · exact h.hrw
    · exact g1
    · exact h.fn t ht

set_option maxRecDepth 100000 in
set_option maxHeartbeats 1000000 in
theorem dw_newN (n : Nat) (e2 : 1 ≤ n) (e3 : n ≤ 32) (a s : Int) (ha : min (max a 1) 32 = (n : Int)) (w0 w : World) (K : Kp w0 w) : Calls Try.prog 8 #[.int .i64 a, .int .i64 s] w fun e w' => ∃ r T, e = .returned (.pointer (some ⟨r, 0, none⟩)) ∧ Dw w0 w' r T (nwB a s) ∧ Kp w w' ∧ (∀ t, t ∈ T → w.heap.size ≤ t) := by
  have hgd := Gd.new a s
  obtain ⟨S, hS⟩ : ∃ S, S = nw (nwN s) := ⟨_, rfl⟩
  have eB : nwB a s = ⟨none, 0, 0, List.replicate n S⟩ := by unfold nwB; rw [hS, show (min (max a 1) 32).toNat = n by omega]
  rw [eB] at hgd ⊢
  obtain ⟨BB, hBB⟩ : ∃ BB : BS, BB = ⟨none, 0, 0, List.replicate n S⟩ := ⟨_, rfl⟩
  rw [← hBB]
  have HBB := hid hBB
  clear hBB
  have H0 : Hid (NwR w0 w _ w.heap.size 0 (.slice none 0 0) [] [] S) := NwR.start (w0 := w0) (w := w)
  have HG := hid hgd
  have hnew : ∀ W, Kp w0 W → Calls Try.prog 27 #[.int .i64 s] W fun e w' => ∃ b T, e = .returned (.pointer (some ⟨b, 0, none⟩)) ∧ Rw w0 w' b T S ∧ Kp W w' ∧ (∀ t, t ∈ T → W.heap.size ≤ t) := fun W hW => by rw [hS]; exact rw_new s w0 W hW
  clear hgd eB hS
  obtain ⟨r, hr⟩ : ∃ r, r = w.heap.size := ⟨_, rfl⟩
  obtain ⟨W, hW⟩ : ∃ W, W = w.alloc (.cells #[.slice none 0 0, .int .i64 0, .int .i64 (-1)] 35) := ⟨_, rfl⟩
  rw [← hW, ← hr] at H0
  have HW := hid hW
  have HR := hid hr
  clear hW hr
  have hcase : (a < 1 ∧ n = 1) ∨ (¬ a < 1 ∧ 32 < a ∧ n = 32) ∨ (¬ a < 1 ∧ ¬ 32 < a ∧ a = (n : Int)) := by omega
  clear ha
  rcases hcase with ⟨h1, rfl⟩ | ⟨h1, h2, rfl⟩ | ⟨h1, h2, rfl⟩
  · go_enter Try.func8, Try.ntmps8
    go_wp2_with fail
    rw [← HW.out, ← HR.out]
    clear HW HR
    go_loopw [6] (fun i wr => ∃ k v X F, k ≤ 1 ∧ i = .int .i64 (k : Nat) ∧ Hid (NwR w0 w wr r k v X F S)) (fun i _ => 1 - (intOf i).toNat)
    case atStart => exact ⟨0, _, [], [], by omega, by go_num, H0⟩
    case round =>
      clear H0
      obtain ⟨k, v, X, F, hk, rfl, HL⟩ := hrel
      by_cases hlt : k < 1
      · have hN := hnew wr (K.trans HL.out.kp)
        have hlt2 : (k : Int) < 1 := by omega
        go_wp2_with fail
        refine hN.mono ?_
        rintro e w1 ⟨x, P, rfl, hO, kO, hP⟩
        have c0 := kO.held HL.out.c0
        have z0 : w1.frozen? ⟨r, 0, none⟩ = false := ((kO.sp []).frozen HL.out.hr (by simp) 0).trans (HL.out.z 0)
        have HOr : Hid (OR w1 w.heap.size 36 v (pv X)) := HL.out.o.kp kO
        have hsz : w.heap.size ≤ w1.heap.size := (HL.out.kp.trans kO).size
        have HLn : Hid ((pv X).length ≤ 32) := by show (pv X).length ≤ 32; rw [pv_len, HL.out.len]; omega
        have hvo : ∀ V ob, (w1.alloc ob).grownBy V v.ownBlock → V.cell? ⟨r, 0, none⟩ = some v ∧ V.frozen? ⟨r, 0, none⟩ = false := fun V ob hg => by
          have s13 : Sp v.ownBlock.toList w1 V := (((Kp.refl w1).alloc ob).sp _).trans (Sp.grown hg)
          have hrv : r ∉ v.ownBlock.toList := fun hm => (HL.out.n2 r (by simpa using hm)).2 rfl
          exact ⟨s13.held c0 hrv, (s13.frozen (World.block_lt_of_cell? _ _ c0) hrv 0).trans z0⟩
        have HHO := hid hO
        have HKO := hid kO
        have HHP := hid hP
        obtain ⟨va, vg, vc, hvv, q1, q2, _, _⟩ := HOr.out.shape
        have HVV := hid hvv
        clear hO kO hP hN hvv
        go_wp2_with (at_builtin; refine wpList_append_or2 rfl _ _ 33 36 (.pointer none) 8 Try.underlying33 info_rp rfl (by omega) rfl w.heap.size _ _ rfl (HOr.out.kp ((Kp.refl w1).alloc (.cells #[.pointer (some ⟨x, 0, none⟩)] 36))) (.pointer (some ⟨x, 0, none⟩)) rfl _ rfl (by rw [World.cell?_alloc_at _ _ _ _ rfl]; rfl) (by have := HLn.out; omega) (by simp; omega) ?_)
        intro v' w3 ho3 hg3 hb3
        have HN3 := hid (HL.out.more HHO.out HKO.out HHP.out ho3 hg3 hb3)
        obtain ⟨c3, z3⟩ := hvo w3 _ hg3
        have hv3 : ∃ a3 L3 cap3, v' = .slice a3 L3 cap3 := by
          obtain ⟨a3, g3, cap3, hv3, _⟩ := ho3.shape
          exact ⟨_, _, _, hv3⟩
        obtain ⟨a3, L3, cap3, hv3⟩ := hv3
        clear ho3 hg3 hb3 hvo HHO HKO HHP HOr HL
        subst hv3
        go_wp2
        go_roundw
        case rel => exact ⟨k + 1, _, _, _, by omega, by go_num, HN3⟩
        case measure => simp [intOf]; omega
      · obtain rfl : k = 1 := by omega
        have hL := HL.out
        have hlt2 : ¬ ((1 : Nat) : Int) < 1 := by omega
        have hq : Hid (∃ r' T, (.returned (.pointer (some ⟨r, 0, none⟩)) : Ending) = .returned (.pointer (some ⟨r', 0, none⟩)) ∧ Dw w0 wr r' T BB ∧ Kp w wr ∧ (∀ t, t ∈ T → w.heap.size ≤ t)) := by rw [HBB.out]; exact hL.fin K e2 HG.out
        clear hL HL
        go_wp2
        go_ret
        obtain ⟨r', T', p1, p2, p3, p4⟩ := hq.out
        cases p1
        exact ⟨_, rfl, _, p2, p3, p4⟩
  · go_enter Try.func8, Try.ntmps8
    go_wp2_with fail
    rw [← HW.out, ← HR.out]
    clear HW HR
    go_loopw [6] (fun i wr => ∃ k v X F, k ≤ 32 ∧ i = .int .i64 (k : Nat) ∧ Hid (NwR w0 w wr r k v X F S)) (fun i _ => 32 - (intOf i).toNat)
    case atStart => exact ⟨0, _, [], [], by omega, by go_num, H0⟩
    case round =>
      clear H0
      obtain ⟨k, v, X, F, hk, rfl, HL⟩ := hrel
      by_cases hlt : k < 32
      · have hN := hnew wr (K.trans HL.out.kp)
        have hlt2 : (k : Int) < 32 := by omega
        go_wp2_with fail
        refine hN.mono ?_
        rintro e w1 ⟨x, P, rfl, hO, kO, hP⟩
        have c0 := kO.held HL.out.c0
        have z0 : w1.frozen? ⟨r, 0, none⟩ = false := ((kO.sp []).frozen HL.out.hr (by simp) 0).trans (HL.out.z 0)
        have HOr : Hid (OR w1 w.heap.size 36 v (pv X)) := HL.out.o.kp kO
        have hsz : w.heap.size ≤ w1.heap.size := (HL.out.kp.trans kO).size
        have HLn : Hid ((pv X).length ≤ 32) := by show (pv X).length ≤ 32; rw [pv_len, HL.out.len]; omega
        have hvo : ∀ V ob, (w1.alloc ob).grownBy V v.ownBlock → V.cell? ⟨r, 0, none⟩ = some v ∧ V.frozen? ⟨r, 0, none⟩ = false := fun V ob hg => by
          have s13 : Sp v.ownBlock.toList w1 V := (((Kp.refl w1).alloc ob).sp _).trans (Sp.grown hg)
          have hrv : r ∉ v.ownBlock.toList := fun hm => (HL.out.n2 r (by simpa using hm)).2 rfl
          exact ⟨s13.held c0 hrv, (s13.frozen (World.block_lt_of_cell? _ _ c0) hrv 0).trans z0⟩
        have HHO := hid hO
        have HKO := hid kO
        have HHP := hid hP
        obtain ⟨va, vg, vc, hvv, q1, q2, _, _⟩ := HOr.out.shape
        have HVV := hid hvv
        clear hO kO hP hN hvv
        go_wp2_with (at_builtin; refine wpList_append_or2 rfl _ _ 33 36 (.pointer none) 8 Try.underlying33 info_rp rfl (by omega) rfl w.heap.size _ _ rfl (HOr.out.kp ((Kp.refl w1).alloc (.cells #[.pointer (some ⟨x, 0, none⟩)] 36))) (.pointer (some ⟨x, 0, none⟩)) rfl _ rfl (by rw [World.cell?_alloc_at _ _ _ _ rfl]; rfl) (by have := HLn.out; omega) (by simp; omega) ?_)
        intro v' w3 ho3 hg3 hb3
        have HN3 := hid (HL.out.more HHO.out HKO.out HHP.out ho3 hg3 hb3)
        obtain ⟨c3, z3⟩ := hvo w3 _ hg3
        have hv3 : ∃ a3 L3 cap3, v' = .slice a3 L3 cap3 := by
          obtain ⟨a3, g3, cap3, hv3, _⟩ := ho3.shape
          exact ⟨_, _, _, hv3⟩
        obtain ⟨a3, L3, cap3, hv3⟩ := hv3
        clear ho3 hg3 hb3 hvo HHO HKO HHP HOr HL
        subst hv3
        go_wp2
        go_roundw
        case rel => exact ⟨k + 1, _, _, _, by omega, by go_num, HN3⟩
        case measure => simp [intOf]; omega
      · obtain rfl : k = 32 := by omega
        have hL := HL.out
        have hlt2 : ¬ ((32 : Nat) : Int) < 32 := by omega
        have hq : Hid (∃ r' T, (.returned (.pointer (some ⟨r, 0, none⟩)) : Ending) = .returned (.pointer (some ⟨r', 0, none⟩)) ∧ Dw w0 wr r' T BB ∧ Kp w wr ∧ (∀ t, t ∈ T → w.heap.size ≤ t)) := by rw [HBB.out]; exact hL.fin K e2 HG.out
        clear hL HL
        go_wp2
        go_ret
        obtain ⟨r', T', p1, p2, p3, p4⟩ := hq.out
        cases p1
        exact ⟨_, rfl, _, p2, p3, p4⟩
  · go_enter Try.func8, Try.ntmps8
    go_wp2_with fail
    rw [← HW.out, ← HR.out]
    clear HW HR
    go_loopw [6] (fun i wr => ∃ k v X F, k ≤ n ∧ i = .int .i64 (k : Nat) ∧ Hid (NwR w0 w wr r k v X F S)) (fun i _ => n - (intOf i).toNat)
    case atStart => exact ⟨0, _, [], [], by omega, by go_num, H0⟩
    case round =>
      clear H0
      obtain ⟨k, v, X, F, hk, rfl, HL⟩ := hrel
      by_cases hlt : k < n
      · have hN := hnew wr (K.trans HL.out.kp)
        have hlt2 : (k : Int) < (n : Int) := by omega
        go_wp2_with fail
        refine hN.mono ?_
        rintro e w1 ⟨x, P, rfl, hO, kO, hP⟩
        have c0 := kO.held HL.out.c0
        have z0 : w1.frozen? ⟨r, 0, none⟩ = false := ((kO.sp []).frozen HL.out.hr (by simp) 0).trans (HL.out.z 0)
        have HOr : Hid (OR w1 w.heap.size 36 v (pv X)) := HL.out.o.kp kO
        have hsz : w.heap.size ≤ w1.heap.size := (HL.out.kp.trans kO).size
        have HLn : Hid ((pv X).length ≤ 32) := by show (pv X).length ≤ 32; rw [pv_len, HL.out.len]; omega
        have hvo : ∀ V ob, (w1.alloc ob).grownBy V v.ownBlock → V.cell? ⟨r, 0, none⟩ = some v ∧ V.frozen? ⟨r, 0, none⟩ = false := fun V ob hg => by
          have s13 : Sp v.ownBlock.toList w1 V := (((Kp.refl w1).alloc ob).sp _).trans (Sp.grown hg)
          have hrv : r ∉ v.ownBlock.toList := fun hm => (HL.out.n2 r (by simpa using hm)).2 rfl
          exact ⟨s13.held c0 hrv, (s13.frozen (World.block_lt_of_cell? _ _ c0) hrv 0).trans z0⟩
        have HHO := hid hO
        have HKO := hid kO
        have HHP := hid hP
        obtain ⟨va, vg, vc, hvv, q1, q2, _, _⟩ := HOr.out.shape
        have HVV := hid hvv
        clear hO kO hP hN hvv
        go_wp2_with (at_builtin; refine wpList_append_or2 rfl _ _ 33 36 (.pointer none) 8 Try.underlying33 info_rp rfl (by omega) rfl w.heap.size _ _ rfl (HOr.out.kp ((Kp.refl w1).alloc (.cells #[.pointer (some ⟨x, 0, none⟩)] 36))) (.pointer (some ⟨x, 0, none⟩)) rfl _ rfl (by rw [World.cell?_alloc_at _ _ _ _ rfl]; rfl) (by have := HLn.out; omega) (by simp; omega) ?_)
        intro v' w3 ho3 hg3 hb3
        have HN3 := hid (HL.out.more HHO.out HKO.out HHP.out ho3 hg3 hb3)
        obtain ⟨c3, z3⟩ := hvo w3 _ hg3
        have hv3 : ∃ a3 L3 cap3, v' = .slice a3 L3 cap3 := by
          obtain ⟨a3, g3, cap3, hv3, _⟩ := ho3.shape
          exact ⟨_, _, _, hv3⟩
        obtain ⟨a3, L3, cap3, hv3⟩ := hv3
        clear ho3 hg3 hb3 hvo HHO HKO HHP HOr HL
        subst hv3
        go_wp2
        go_roundw
        case rel => exact ⟨k + 1, _, _, _, by omega, by go_num, HN3⟩
        case measure => simp [intOf]; omega
      · obtain rfl : k = n := by omega
        have hL := HL.out
        have hlt2 : ¬ ((k : Nat) : Int) < (k : Int) := by omega
        have hq : Hid (∃ r' T, (.returned (.pointer (some ⟨r, 0, none⟩)) : Ending) = .returned (.pointer (some ⟨r', 0, none⟩)) ∧ Dw w0 wr r' T BB ∧ Kp w wr ∧ (∀ t, t ∈ T → w.heap.size ≤ t)) := by rw [HBB.out]; exact hL.fin K e2 HG.out
        clear hL HL
        go_wp2
        go_ret
        obtain ⟨r', T', p1, p2, p3, p4⟩ := hq.out
        cases p1
        exact ⟨_, rfl, _, p2, p3, p4⟩
theorem dw_new (a s : Int) (w0 w : World) (K : Kp w0 w) : Calls Try.prog 8 #[.int .i64 a, .int .i64 s] w fun e w' => ∃ r T, e = .returned (.pointer (some ⟨r, 0, none⟩)) ∧ Dw w0 w' r T (nwB a s) ∧ Kp w w' ∧ (∀ t, t ∈ T → w.heap.size ≤ t) :=
  dw_newN (min (max a 1) 32).toNat (by omega) (by omega) a s (by omega) w0 w K

end Go.Proofs.Ytmklkdopmemfaaa
