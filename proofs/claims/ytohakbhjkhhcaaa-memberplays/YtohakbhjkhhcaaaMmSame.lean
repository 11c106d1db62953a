/-
  The law's same. Conditions: both members lie in memory, apart, and are the same; few writes wait.
-/
import Derived.Test.YtohakbhjkhhcaaaMmPair
import Derived.Deep.QuietTactic
import Derived.BigQuiet
import Derived.Deep.RegionWith
import Derived.Deep.RegionHeld3
import Derived.Deep.DeepCutAuto
import Derived.Deep.CutBlock
namespace Go.Proofs.Ytohakbhjkhhcaaa
open Go.RowKit Plain
set_option linter.unusedVariables false

/-- from W on, calls on the member that leave it as it is. -/
def Pm (w0 W : World) (P : List Nat) (x r gs cap : Nat) (wv : Value) (S : MS) (V : World) : Prop := ∃ P', Ow w0 V x P' S ∧ Sp P W V ∧ Nw W P P' ∧ RefIn V r gs cap wv S ∧ Dj P' (rblk r gs wv)
theorem Pm.ref {w0 W V : World} {P : List Nat} {x r gs cap : Nat} {wv : Value} {S : MS} (h : Pm w0 W P x r gs cap wv S V) : RefIn V r gs cap wv S := by
  obtain ⟨P', h1, h2, h3, h4, h5⟩ := h
  exact h4
theorem Pm.sp {w0 W V : World} {P : List Nat} {x r gs cap : Nat} {wv : Value} {S : MS} (h : Pm w0 W P x r gs cap wv S V) : Sp P W V := by
  obtain ⟨P', h1, h2, h3, h4, h5⟩ := h
  exact h2
theorem Pm.kp {w0 W V V' : World} {P : List Nat} {x r gs cap : Nat} {wv : Value} {S : MS} (h : Pm w0 W P x r gs cap wv S V) (k : Kp V V') : Pm w0 W P x r gs cap wv S V' := by
  obtain ⟨P', h1, h2, h3, h4, h5⟩ := h
  exact ⟨P', h1.kp k, h2.trans (k.sp _), h3, h4.kp k, h5⟩
theorem Pm.call {w0 W V : World} {P : List Nat} {x r gs cap : Nat} {wv : Value} {S : MS} (K : Kp w0 W) (hP : ∀ t, t ∈ P → w0.heap.size ≤ t) (h : Pm w0 W P x r gs cap wv S V) {F : FuncId} {args : Array Value} {E : Ending → Prop}
    (hc : ∀ P', Ow w0 V x P' S → Kp w0 V → Calls Try.prog F args V fun e V' => E e ∧ Nx w0 V V' x P' S) : Calls Try.prog F args V fun e V' => E e ∧ Pm w0 W P x r gs cap wv S V' := by
  obtain ⟨P', h1, h2, h3, h4, h5⟩ := h
  refine (hc P' h1 (Sp.kp K h2 hP)).mono fun e V' ⟨he, P2, p1, p2, p3⟩ => ⟨he, P2, p1, h2.then p2 h3, h3.trans p3 h2.size, h4.sp p2 h5.symm, fun t ht ht2 => ?_⟩
  rcases p3 t ht with h6 | h6
  · exact h5 t h6 ht2
  · have := h4.low t ht2; omega
set_option maxRecDepth 100000 in
set_option maxHeartbeats 4000000 in
theorem same_any {w0 W : World} {T : List Nat} {x r : Nat} {S : MS} (K : Kp w0 W) (h : Pr w0 W T x r S S) (hrl : S.row.length < 1000000) : Calls Try.prog 10 #[.pointer (some ⟨x, 0, none⟩), .pointer (some ⟨r, 0, none⟩)] W fun e w' => e = .returned (.bool true) ∧ Px w0 W T x r S S w' := by
  obtain ⟨P, gs, cap, wv, rfl, h1, h2, d, h4⟩ := h
  obtain ⟨a, cc, rfl, hn1, hn2⟩ := h2.wl
  have hw := ow_waiting2 h1 hrl
  have hlow := h1.low
  have hnew := h1.new
  obtain ⟨n, hn⟩ : ∃ n, n = S.row.length := ⟨_, rfl⟩
  rw [← hn] at hw h2 d h4 hn1 hrl ⊢
  obtain ⟨D, hD⟩ : ∃ D, D = S.dead := ⟨_, rfl⟩
  obtain ⟨m, hm⟩ : ∃ m, m = S.las.length := ⟨_, rfl⟩
  obtain ⟨C0, hC0⟩ : ∃ C0, C0 = S.c 0 := ⟨_, rfl⟩
  obtain ⟨C1, hC1⟩ : ∃ C1, C1 = S.c 1 := ⟨_, rfl⟩
  obtain ⟨C2, hC2⟩ : ∃ C2, C2 = S.c 2 := ⟨_, rfl⟩
  obtain ⟨C3, hC3⟩ : ∃ C3, C3 = S.c 3 := ⟨_, rfl⟩
  have hcV : cV S.c = .agg #[.int .i64 C0, .int .i64 C1, .int .i64 C2, .int .i64 C3] := by rw [hC0, hC1, hC2, hC3]; rfl
  have HN := hid hn
  have HD := hid hD
  have HM := hid hm
  have HC0 := hid hC0
  have HC1 := hid hC1
  have HC2 := hid hC2
  have HC3 := hid hC3
  have HCV := hid hcV
  have HL := hid hlow
  have HNW := hid hnew
  have H4 := hid h4
  have H2 := hid h2
  have HDj := hid d
  have HK := hid K
  have hkc := h2.k1
  have hkc2 := h2.k2
  rw [← hm] at hkc
  clear hn hD hm hC0 hC1 hC2 hC3 hcV hlow hnew h4 h2 d K h1
  go_enter Try.func10, Try.ntmps10
  go_wp2_with fail
  refine hw.mono ?_
  rintro e w1 ⟨g, rfl, nm, ⟨o1, s1⟩, hg⟩
  have R1 := H2.out.sp s1 HDj.out.symm
  have K1 := Sp.kp HK.out s1 HNW.out
  have hP1 : Pm w0 w1 P x r gs cap (.slice a n cc) S w1 := ⟨P, o1, Sp.refl _ _, Nw.refl _ _, R1, HDj.out⟩
  have hgP : g ∉ P := fun hm => by have := HL.out g hm; omega
  have hR : Pm w0 w1 P x r gs cap (.slice a n cc) S w1.drew := hP1.kp (Kp.refl _).drew
  have HRR := hid hR
  have HNM := hid nm
  have HS1 := hid s1
  have HK1 := hid K1
  have HG := hid hgP
  have F : Hid (∀ V, Pm w0 w1 P x r gs cap (.slice a n cc) S V → V.cell? ⟨r, 0, none⟩ = some (.slice (some ⟨gs, 0, none⟩) m cap) ∧ V.cell? ⟨r, 1, none⟩ = some (.slice a n cc) ∧ V.cell? ⟨r, 2, none⟩ = some (.bool D) ∧ V.cell? ⟨r, 3, none⟩ = some (.int .i64 C0) ∧ V.cell? ⟨r, 4, none⟩ = some (.int .i64 C1) ∧ V.cell? ⟨r, 5, none⟩ = some (.int .i64 C2) ∧ V.cell? ⟨r, 6, none⟩ = some (.int .i64 C3)) := fun V k => by
    have q := k.ref
    rw [HM.out, HD.out, HC0.out, HC1.out, HC2.out, HC3.out]
    exact ⟨q.c0, q.c1, q.c2, q.cn 0 (by omega), q.cn 1 (by omega), q.cn 2 (by omega), q.cn 3 (by omega)⟩
  have q0 := fun p => (F.out _ (prw_ok HRR.out p)).1
  have q1 := fun p => (F.out _ (prw_ok HRR.out p)).2.1
  have q2 := fun p => (F.out _ (prw_ok HRR.out p)).2.2.1
  have q3 := fun p => (F.out _ (prw_ok HRR.out p)).2.2.2.1
  have q4 := fun p => (F.out _ (prw_ok HRR.out p)).2.2.2.2.1
  have q5 := fun p => (F.out _ (prw_ok HRR.out p)).2.2.2.2.2.1
  have q6 := fun p => (F.out _ (prw_ok HRR.out p)).2.2.2.2.2.2
  have c21 : ∀ V, Pm w0 w1 P x r gs cap (.slice a n cc) S V → Calls Try.prog 21 #[.pointer (some ⟨x, 0, none⟩)] V fun e V' => e = .returned (.bool D) ∧ Pm w0 w1 P x r gs cap (.slice a n cc) S V' := fun V k => by
    have := k.call HK1.out HNW.out (fun P' o K => ow_dead o K)
    rw [← HD.out] at this
    exact this
  have c23 : ∀ V, Pm w0 w1 P x r gs cap (.slice a n cc) S V → Calls Try.prog 23 #[.pointer (some ⟨x, 0, none⟩)] V fun e V' => e = .returned (.int .i64 (m : Int)) ∧ Pm w0 w1 P x r gs cap (.slice a n cc) S V' := fun V k => by
    obtain ⟨P', o, _⟩ := id k
    have := ow_size o
    rw [← HM.out] at this
    exact this.mono fun e V' ⟨he, hv⟩ => ⟨he, by rw [hv]; exact k⟩
  have c24 : ∀ V, Pm w0 w1 P x r gs cap (.slice a n cc) S V → Calls Try.prog 24 #[.pointer (some ⟨x, 0, none⟩)] V fun e V' => e = .returned (.agg #[.int .i64 C0, .int .i64 C1, .int .i64 C2, .int .i64 C3]) ∧ Pm w0 w1 P x r gs cap (.slice a n cc) S V' := fun V k => by
    obtain ⟨P', o, _⟩ := id k
    have := ow_counts o
    rw [HCV.out] at this
    exact this.mono fun e V' ⟨he, hv⟩ => ⟨he, k.kp hv⟩
  clear hR nm s1 K1 hgP hP1 R1 o1 hw
  go_wp2_with fail
  refine wp_region_pr (Pm w0 w1 P x r gs cap (.slice a n cc) S) HRR.out (by kernel_rfl) (by kernel_rfl) ?_
  repeat (first
    | go_big_quiet_skip
    | (go_big_quiet_want; go_big_quiet_op; go_big_quiet_on)
    | (go_big_quiet_want; go_big_quiet_op; apply Exists.intro; refine ⟨fun p => ?_, ?_⟩; (focus
        first
        | (go_at_call 21; exact pr_call (c21 _ (prw_ok HRR.out p)))
        | (go_at_call 23; exact pr_call (c23 _ (prw_ok HRR.out p)))
        | (go_at_call 24; exact pr_call (c24 _ (prw_ok HRR.out p)))); go_big_quiet_on))
  refine wpQuiet_nil ?_
  rintro w2 ⟨p, hp⟩
  have P2 : Hid (Pm w0 w1 P x r gs cap (.slice a n cc) S w2) := by
    show Pm w0 w1 P x r gs cap (.slice a n cc) S w2
    rw [hp]; exact prw_ok HRR.out p
  clear hp q0 q1 q2 q3 q4 q5 q6 c21 c23 c24
  go_wp2_with fail
  go_loopw [64] (fun i wr => ∃ k : Nat, k ≤ n ∧ i = .int .i64 k ∧ Hid (Pm w0 w1 P x r gs cap (.slice a n cc) S wr)) (fun i _ => n - (intOf i).toNat)
  case atStart => exact ⟨0, by omega, by go_num, P2⟩
  case round =>
    clear P2
    obtain ⟨k, hk, rfl, HP⟩ := hrel
    by_cases hlt : k < n
    · have hkn : (k : Int) < (n : Int) := by omega
      have hks : k < S.row.length := by rw [← HN.out]; exact hlt
      obtain ⟨g2, c', hv, _⟩ := HP.out.ref.wat (by omega)
      obtain rfl : a = some ⟨g2, 0, none⟩ := by simp only [Value.slice.injEq] at hv; exact hv.1
      obtain ⟨y, hy⟩ : ∃ y : Int, y = ((S.row.getD k (0, noS)).1 : Int) := ⟨_, rfl⟩
      have HRk := hid (HP.out.kp (Kp.refl _).drew)
      have F2 : Hid (∀ V, Pm w0 w1 P x r gs cap (.slice (some ⟨g2, 0, none⟩) n cc) S V → V.cell? ⟨r, 1, none⟩ = some (.slice (some ⟨g2, 0, none⟩) n cc) ∧ V.cell? ⟨g, k, none⟩ = some (.int .i64 y) ∧ V.cell? ⟨g2, k * 2, none⟩ = some (.int .i64 y)) := fun V kk => by
        obtain ⟨g3, c3, hv3, hat⟩ := kk.ref.wat (by omega)
        simp only [Value.slice.injEq, Option.some.injEq, Addr.mk.injEq] at hv3
        obtain ⟨⟨rfl, _⟩, _⟩ := hv3
        refine ⟨kk.ref.c1, ?_, ?_⟩
        · rw [hy]; exact (HNM.out.sp kk.sp HG.out).c k hlt
        · rw [hy]; exact (hat k hks).1
      have q1 := fun p => (F2.out _ (prw_ok HRk.out p)).1
      have q2 := fun p => (F2.out _ (prw_ok HRk.out p)).2.1
      have q3 := fun p => (F2.out _ (prw_ok HRk.out p)).2.2
      clear hv hy
      go_wp2_with fail
      refine wp_region_pr (Pm w0 w1 P x r gs cap (.slice (some ⟨g2, 0, none⟩) n cc) S) HRk.out (by kernel_rfl) (by kernel_rfl) ?_
      repeat (first
        | go_big_quiet_skip
        | (go_big_quiet_want; go_big_quiet_op; go_big_quiet_on))
      refine wpQuiet_nil ?_
      rintro w3 ⟨p, hp⟩
      have P3 : Hid (Pm w0 w1 P x r gs cap (.slice (some ⟨g2, 0, none⟩) n cc) S w3) := by
        show Pm w0 w1 P x r gs cap (.slice (some ⟨g2, 0, none⟩) n cc) S w3
        rw [hp]; exact prw_ok HRk.out p
      clear hp q1 q2 q3
      go_wp2
      go_roundw
      case rel => exact ⟨k + 1, by omega, by go_num, P3⟩
      case measure => simp [intOf]; omega
    · obtain rfl : k = n := by omega
      have hkn : ¬ (k : Int) < (k : Int) := by omega
      go_wp2
      go_ret
      obtain ⟨P', z1, z2, z3, z4, z5⟩ := HP.out
      refine ⟨rfl, P' ++ rblk r gs (.slice a k cc), ⟨P', gs, cap, _, rfl, z1, z4, z5, H4.out⟩, (HS1.out.trans z2).mono (fun t ht => List.mem_append_left _ ht), fun t ht => ?_⟩
      rcases List.mem_append.1 ht with h5 | h5
      · rcases z3 t h5 with h6 | h6
        · exact .inl (List.mem_append_left _ h6)
        · exact .inr (Nat.le_trans HS1.out.size h6)
      · exact .inl (List.mem_append_right _ h5)

end Go.Proofs.Ytohakbhjkhhcaaa
