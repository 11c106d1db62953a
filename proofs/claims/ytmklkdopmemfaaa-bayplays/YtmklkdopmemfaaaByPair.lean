/-
  A bay and the document's, side by side: calls on the one or the other; the law's same. Conditions: both lie in memory, apart.
-/
import Derived.Test.YtmklkdopmemfaaaByLists
import Derived.Deep.QuietTactic
import Derived.BigQuiet
namespace Go.Proofs.Ytmklkdopmemfaaa
open Go.RowKit Plain
set_option linter.unusedVariables false

section
variable {σ τ : Type} {O : World → World → Nat → List Nat → σ → Prop} {Q : World → World → Nat → List Nat → τ → Prop}
theorem Bx.mk1 (L : OL O) (M : OL Q) {w0 W w' w'' : World} {x y : Nat} {T P R : List Nat} {A A' : σ} {B : τ} (h1 : O w0 w' x P A) (h2 : Q w0 w' y R B) (d : Dj P R) (q2 : Sp T W w') (q3 : Nw W T (P ++ R)) (hc : Nz O w0 w' w'' x P A') : Bx O Q w0 W x y T A' B w'' := by
  obtain ⟨P', p1, p2, p3⟩ := hc
  have d' : Dj P' R := fun t ht ht2 => by
    rcases p3 t ht with h5 | h5
    · exact d t h5 ht2
    · have := M.low h2 t ht2; omega
  refine ⟨P' ++ R, ⟨P', R, rfl, p1, M.sp h2 p2 d.symm, d'⟩, q2.then (p2.mono fun t ht => List.mem_append_left _ ht) q3, q3.trans (fun t ht => ?_) q2.size⟩
  rcases List.mem_append.1 ht with h5 | h5
  · rcases p3 t h5 with h6 | h6
    · exact .inl (List.mem_append_left _ h6)
    · exact .inr h6
  · exact .inl (List.mem_append_right _ h5)
theorem Bx.mk2 (L : OL O) (M : OL Q) {w0 W w' w'' : World} {x y : Nat} {T P R : List Nat} {A : σ} {B B' : τ} (h1 : O w0 w' x P A) (h2 : Q w0 w' y R B) (d : Dj P R) (q2 : Sp T W w') (q3 : Nw W T (P ++ R)) (hc : Nz Q w0 w' w'' y R B') : Bx O Q w0 W x y T A B' w'' := by
  obtain ⟨R', p1, p2, p3⟩ := hc
  have d' : Dj P R' := fun t ht ht2 => by
    rcases p3 t ht2 with h5 | h5
    · exact d t ht h5
    · have := L.low h1 t ht; omega
  refine ⟨P ++ R', ⟨P, R', rfl, L.sp h1 p2 d, p1, d'⟩, q2.then (p2.mono fun t ht => List.mem_append_right _ ht) q3, q3.trans (fun t ht => ?_) q2.size⟩
  rcases List.mem_append.1 ht with h5 | h5
  · exact .inl (List.mem_append_left _ h5)
  · rcases p3 t h5 with h6 | h6
    · exact .inl (List.mem_append_right _ h6)
    · exact .inr h6
end
/-- both, behind calls from W on. -/
abbrev Bd (w0 W : World) (x y : Nat) (T : List Nat) (A B : BS) (w' : World) : Prop := Bx Bw Dw w0 W x y T A B w'
theorem Bd.c1 {w0 W V : World} {x y : Nat} {T : List Nat} {A A' B : BS} (K : Kp w0 W) (hT : ∀ t, t ∈ T → w0.heap.size ≤ t) (h : Bd w0 W x y T A B V) {F : FuncId} {args : Array Value} {E : Ending → Prop}
    (hc : ∀ P, Bw w0 V x P A → Kp w0 V → Calls Try.prog F args V fun e w'' => E e ∧ Nz Bw w0 V w'' x P A') : Calls Try.prog F args V fun e w'' => E e ∧ Bd w0 W x y T A' B w'' := by
  have K' := h.below K hT
  obtain ⟨T', ⟨P, R, rfl, h1, h2, d⟩, q2, q3⟩ := h
  exact (hc P h1 K').mono fun e w'' ⟨he, nz⟩ => ⟨he, Bx.mk1 OL.bw OL.dw h1 h2 d q2 q3 nz⟩
theorem Bd.c2 {w0 W V : World} {x y : Nat} {T : List Nat} {A B B' : BS} (K : Kp w0 W) (hT : ∀ t, t ∈ T → w0.heap.size ≤ t) (h : Bd w0 W x y T A B V) {F : FuncId} {args : Array Value} {E : Ending → Prop}
    (hc : ∀ P, Dw w0 V y P B → Kp w0 V → Calls Try.prog F args V fun e w'' => E e ∧ Nz Dw w0 V w'' y P B') : Calls Try.prog F args V fun e w'' => E e ∧ Bd w0 W x y T A B' w'' := by
  have K' := h.below K hT
  obtain ⟨T', ⟨P, R, rfl, h1, h2, d⟩, q2, q3⟩ := h
  exact (hc R h2 K').mono fun e w'' ⟨he, nz⟩ => ⟨he, Bx.mk2 OL.bw OL.dw h1 h2 d q2 q3 nz⟩
/-- the member of the bay's, as it lies. -/
theorem Bd.own1 {w0 W V : World} {x y : Nat} {T : List Nat} {A B : BS} (h : Bd w0 W x y T A B V) {i : Int} (hi : fdE A i = 0) : ∃ z P, (∀ V', Kp V V' → Calls Try.prog 12 #[.pointer (some ⟨x, 0, none⟩), .int .i64 i] V' fun e w' => e = .returned (.pointer (some ⟨z, 0, none⟩)) ∧ w' = V') ∧ Ow w0 V z P (bm A i) ∧ ∀ w' S', Nx w0 V w' z P S' → Right S' → S'.row.length ≤ A.g → Bd w0 W x y T (put A i S') B w' := by
  obtain ⟨T', ⟨P, R, rfl, h1, h2, d⟩, q2, q3⟩ := h
  have h1' := h1
  obtain ⟨m, X, F, rfl, hx⟩ := h1'
  obtain ⟨Z, z1, z2, z3⟩ := hx.at hi
  refine ⟨X.getD i.toNat 0, Z, fun V' kV => ?_, z2, fun w' S' hn hr hl => Bx.mk1 OL.bw OL.dw h1 h2 d q2 q3 (z3 w' S' hn hr hl)⟩
  have hm := member_any (hx.sp (kV.sp []) (fun _ _ h => by cases h)) i
  unfold ptr at hm
  rw [if_pos hi] at hm
  exact hm
theorem Bd.none1 {w0 W V : World} {x y : Nat} {T : List Nat} {A B : BS} (h : Bd w0 W x y T A B V) {i : Int} (hi : fdE A i ≠ 0) : ∀ V', Kp V V' → Calls Try.prog 12 #[.pointer (some ⟨x, 0, none⟩), .int .i64 i] V' fun e w' => e = .returned (.pointer none) ∧ w' = V' := fun V' kV => by
  obtain ⟨T', ⟨P, R, rfl, h1, h2, d⟩, q2, q3⟩ := h
  exact bw_nomember (OL.bw.sp h1 (kV.sp []) (fun _ _ h => by cases h)) hi
/-- the document's list of members. -/
theorem Bd.list2 {w0 W V : World} {x y : Nat} {T : List Nat} {A B : BS} (h : Bd w0 W x y T A B V) : ∃ m cap, V.cell? ⟨y, 0, none⟩ = some (.slice (some ⟨m, 0, none⟩) B.ms.length cap) ∧ B.ms.length ≤ cap ∧ cap ≤ 9223372036854775807 ∧ V.cell? ⟨y, 1, none⟩ = some (.int .i64 (B.md : Int)) ∧ V.cell? ⟨y, 2, none⟩ = some (.int .i64 (lfI B.pw)) := by
  obtain ⟨T', ⟨P, R, rfl, h1, ⟨m, cap, X, F, rfl, hx⟩, d⟩, q2, q3⟩ := h
  exact ⟨m, cap, hx.c0, hx.k1, hx.k2, hx.c1, hx.c2⟩
theorem Bd.own2 {w0 W V : World} {x y : Nat} {T : List Nat} {A B : BS} (h : Bd w0 W x y T A B V) {i : Nat} (hi : i < B.ms.length) : ∃ m cap z P, V.cell? ⟨y, 0, none⟩ = some (.slice (some ⟨m, 0, none⟩) B.ms.length cap) ∧ B.ms.length ≤ cap ∧ cap ≤ 9223372036854775807 ∧ V.cell? ⟨m, i, none⟩ = some (.pointer (some ⟨z, 0, none⟩)) ∧ Rw w0 V z P (B.ms.getD i noM) ∧ (∀ w' S', Nz Rw w0 V w' z P S' → Right S' → S'.row.length ≤ B.g → Bd w0 W x y T A (put B (i : Int) S') w') ∧ ∀ t, t ∈ P → t ≠ y ∧ t ≠ m ∧ (t ∈ T ∨ W.heap.size ≤ t) := by
  obtain ⟨T', ⟨P, R, rfl, h1, h2, d⟩, q2, q3⟩ := h
  have h2' := h2
  obtain ⟨m, cap, X, F, rfl, hx⟩ := h2'
  have hf : fdE B (i : Int) = 0 := by unfold fdE; rw [if_pos ⟨by omega, by omega⟩]
  obtain ⟨Z, z1, z2, z3⟩ := hx.at hf
  have e : bm B (i : Int) = B.ms.getD i noM := by unfold bm; rw [Int.toNat_natCast]
  rw [e, Int.toNat_natCast] at z2
  rw [Int.toNat_natCast] at z3
  exact ⟨m, cap, X.getD i 0, Z, hx.c0, hx.k1, hx.k2, hx.ar i hi, z2, fun w' S' hn hr hl => Bx.mk2 OL.bw OL.dw h1 h2 d q2 q3 (z3 w' S' hn hr hl), fun t ht => ⟨fun e => hx.n1 (by rw [← e]; exact z1 t ht), fun e => hx.n2 (by rw [← e]; exact z1 t ht), q3 t (by simp [z1 t ht])⟩⟩
theorem Bd.gd {w0 W V : World} {x y : Nat} {T : List Nat} {A B : BS} (h : Bd w0 W x y T A B V) : Gd A := by
  obtain ⟨T', ⟨P, R, rfl, h1, h2, d⟩, q2, q3⟩ := h
  exact h1.gd
theorem Bd.gd2 {w0 W V : World} {x y : Nat} {T : List Nat} {A B : BS} (h : Bd w0 W x y T A B V) : Gd B := by
  obtain ⟨T', ⟨P, R, rfl, h1, h2, d⟩, q2, q3⟩ := h
  exact h2.gd
theorem Bd.kp {w0 W w' w'' : World} {x y : Nat} {T : List Nat} {A B : BS} (h : Bd w0 W x y T A B w') (k : Kp w' w'') : Bd w0 W x y T A B w'' := Bx.kp OL.bw OL.dw h k
theorem Bd.live {w0 W V : World} {x y : Nat} {T : List Nat} {A B : BS} (h : Bd w0 W x y T A B V) : Calls Try.prog 25 #[.pointer (some ⟨x, 0, none⟩)] V fun e w'' => ∃ v, e = .returned v ∧ Lv V w'' v (lvL 0 A.ms) ∧ Bd w0 W x y T A B w'' := by
  obtain ⟨T', ⟨P, R, rfl, h1, h2, d⟩, q2, q3⟩ := h
  refine (bw_live h1).mono fun e w'' ⟨v, he, hl, hb, hs⟩ => ⟨v, he, hl, ?_⟩
  exact ⟨P ++ R, ⟨P, R, rfl, hb, OL.dw.sp h2 hs d.symm, d⟩, q2.then (hs.mono fun t ht => List.mem_append_left _ ht) q3, q3⟩
theorem Bd.live2 {w0 W V : World} {x y : Nat} {T : List Nat} {A B : BS} (h : Bd w0 W x y T A B V) : Calls Try.prog 28 #[.pointer (some ⟨y, 0, none⟩)] V fun e w'' => ∃ v, e = .returned v ∧ Lv V w'' v (lvL 0 B.ms) ∧ Kp V w'' := by
  obtain ⟨T', ⟨P, R, rfl, h1, h2, d⟩, q2, q3⟩ := h
  exact dw_live h2
theorem Bd.asks {w0 W V : World} {x y : Nat} {T : List Nat} {A B : BS} (h : Bd w0 W x y T A B V) : (∀ V', Kp V V' → Calls Try.prog 21 #[.pointer (some ⟨x, 0, none⟩)] V' fun e w' => e = .returned (.int .i64 (A.md : Int)) ∧ w' = V') ∧ (∀ V', Kp V V' → Calls Try.prog 20 #[.pointer (some ⟨x, 0, none⟩)] V' fun e w' => e = .returned (.bool (ofB A)) ∧ w' = V') ∧ (∀ V', Kp V V' → Calls Try.prog 23 #[.pointer (some ⟨x, 0, none⟩)] V' fun e w' => e = .returned (.int .i64 (A.ms.length : Int)) ∧ w' = V') := by
  obtain ⟨T', ⟨P, R, rfl, h1, h2, d⟩, q2, q3⟩ := h
  exact ⟨fun V' k => bw_steps (OL.bw.sp h1 (k.sp []) (fun _ _ h => by cases h)), fun V' k => bw_off (OL.bw.sp h1 (k.sp []) (fun _ _ h => by cases h)), fun V' k => bw_size (OL.bw.sp h1 (k.sp []) (fun _ _ h => by cases h))⟩

theorem Nz.from {σ : Type} {O : World → World → Nat → List Nat → σ → Prop} {w0 V V' w' : World} {z : Nat} {P : List Nat} {S : σ} (k : Kp V V') (h : Nz O w0 V' w' z P S) : Nz O w0 V w' z P S := by
  obtain ⟨P', h1, h2, h3⟩ := h
  exact ⟨P', h1, (k.sp P).trans h2, fun t ht => (h3 t ht).imp id (fun h => Nat.le_trans k.size h)⟩
theorem Bd.crash1 {w0 W V V' : World} {x y : Nat} {T : List Nat} {A B : BS} (K : Kp w0 W) (hT : ∀ t, t ∈ T → w0.heap.size ≤ t) (h : Bd w0 W x y T A B V) (k : Kp V V') {KK : List (Value × List Nat)} (hv : ∀ i, i < KK.length → KeIn w0 (KK.getD i noK).1 (KK.getD i noK).2) {v : Value} (ho : OR V' V.heap.size 110 v (cvs (KK.take 32))) (hg : A.g < 1000000) : Calls Try.prog 22 #[.pointer (some ⟨x, 0, none⟩), v] V' fun e w'' => e = .returned (.tuple #[]) ∧ Bd w0 W x y T (crB A (ksF KK)) B w'' := by
  have K' := (h.below K hT).trans k
  obtain ⟨T', ⟨P, R, rfl, h1, h2, d⟩, q2, q3⟩ := h
  have h1' := OL.bw.sp h1 (k.sp []) (fun _ _ h => by cases h)
  have h2' := OL.dw.sp h2 (k.sp []) (fun _ _ h => by cases h)
  exact (bw_crash h1' K' v _ _ (Ks.of hv ho (OL.bw.low h1)) hg).mono fun e w'' ⟨he, nz⟩ => ⟨he, Bx.mk1 OL.bw OL.dw h1' h2' d (q2.trans (k.sp T)) q3 nz⟩
theorem Bd.crash2 {w0 W V V' : World} {x y : Nat} {T : List Nat} {A B : BS} (K : Kp w0 W) (hT : ∀ t, t ∈ T → w0.heap.size ≤ t) (h : Bd w0 W x y T A B V) (k : Kp V V') {KK : List (Value × List Nat)} (hv : ∀ i, i < KK.length → KeIn w0 (KK.getD i noK).1 (KK.getD i noK).2) {v : Value} (ho : OR V' V.heap.size 110 v (cvs (KK.take 32))) (hg : B.g < 1000000) : Calls Try.prog 33 #[.pointer (some ⟨y, 0, none⟩), v] V' fun e w'' => e = .returned (.tuple #[]) ∧ Bd w0 W x y T A (crB B (ksF KK)) w'' := by
  have K' := (h.below K hT).trans k
  obtain ⟨T', ⟨P, R, rfl, h1, h2, d⟩, q2, q3⟩ := h
  have h1' := OL.bw.sp h1 (k.sp []) (fun _ _ h => by cases h)
  have h2' := OL.dw.sp h2 (k.sp []) (fun _ _ h => by cases h)
  exact (dw_crash h2' K' v _ _ (Ks.of hv ho (OL.dw.low h2)) hg).mono fun e w'' ⟨he, nz⟩ => ⟨he, Bx.mk2 OL.bw OL.dw h1' h2' d (q2.trans (k.sp T)) q3 nz⟩

/-! ### same -/
set_option maxRecDepth 100000 in
set_option maxHeartbeats 2000000 in
theorem same_bay {w0 W V : World} {x y : Nat} {T : List Nat} {B : BS} (h : Bd w0 W x y T B B V) : Calls Try.prog 10 #[.pointer (some ⟨x, 0, none⟩), .pointer (some ⟨y, 0, none⟩)] V fun e w' => e = .returned (.bool true) ∧ Bd w0 W x y T B B w' := by
  have hlv := h.live
  have HLL : Hid ((lvL 0 B.ms).length ≤ 32) := by have := lvL_len B.ms 0; have := h.gd.n2; show (lvL 0 B.ms).length ≤ 32; omega
  obtain ⟨L, hL⟩ : ∃ L, L = lvL 0 B.ms := ⟨_, rfl⟩
  rw [← hL] at hlv HLL
  have HL := hid hL
  clear hL
  go_enter Try.func10, Try.ntmps10
  go_wp2_with fail
  refine hlv.mono ?_
  rintro e V1 ⟨v1, rfl, l1, d1⟩
  have hl2 := d1.live2
  rw [← HL.out] at hl2
  clear hlv h
  obtain ⟨a1, g1, c1, rfl, p1, p2, p3, p4⟩ := l1
  have HP3 := hid p3
  have HP4 := hid p4
  have HD1 := hid d1
  obtain ⟨n, hn⟩ : ∃ n, n = L.length := ⟨_, rfl⟩
  have HN := hid hn
  have hn32 : n ≤ 32 := by rw [hn]; exact HLL.out
  rw [← hn] at p1 ⊢
  clear hn p3 p4 d1
  go_wp2_with fail
  refine hl2.mono ?_
  rintro e V2 ⟨v2, rfl, l2, k2⟩
  obtain ⟨a2, g2, c2, rfl, r1, r2, r3, r4⟩ := l2
  rw [← HN.out] at r1 ⊢
  have HR3 := hid r3
  have HR4 := hid r4
  have HK2 := hid k2
  have HD2 := hid (HD1.out.kp k2)
  obtain ⟨s1, s2, s3⟩ := HD2.out.asks
  obtain ⟨m, cap, m0, m1, m2, m3, m4⟩ := HD2.out.list2
  have lz := lf_zero B.pw
  rw [show decide (B.pw = some 0) = ofB B from rfl] at lz
  obtain ⟨N, hNN⟩ : ∃ N, N = B.ms.length := ⟨_, rfl⟩
  have hN32 : N ≤ 32 := by rw [hNN]; exact HD2.out.gd.n2
  rw [← hNN] at m0 m1 s3
  obtain ⟨md, hmd⟩ : ∃ md, md = B.md := ⟨_, rfl⟩
  rw [← hmd] at m3 s1
  obtain ⟨lf, hlf⟩ : ∃ lf, lf = lfI B.pw := ⟨_, rfl⟩
  rw [← hlf] at m4 lz
  obtain ⟨of, hof⟩ : ∃ of, of = ofB B := ⟨_, rfl⟩
  rw [← hof] at s2 lz
  have lz2 : (lf == 0) = of := by rw [← lz]; rfl
  have R0 : Hid (Kp V2 V2.drew) := (Kp.refl V2).drew
  have M0 := hid m0
  have M3 := hid m3
  have M4 := hid m4
  have S1 := hid s1
  have S2 := hid s2
  have S3 := hid s3
  clear hNN hmd hlf hof lz s1 s2 s3 m0 m3 m4 r3 r4 k2 hl2
  have q0 : ∀ p, (prw (Kp V2) V2.drew p).cell? ⟨y, 0, none⟩ = some (.slice (some ⟨m, 0, none⟩) N cap) := fun p => (prw_ok R0.out p).held M0.out
  have q1 : ∀ p, (prw (Kp V2) V2.drew p).cell? ⟨y, 1, none⟩ = some (.int .i64 (md : Int)) := fun p => (prw_ok R0.out p).held M3.out
  have q2 : ∀ p, (prw (Kp V2) V2.drew p).cell? ⟨y, 2, none⟩ = some (.int .i64 lf) := fun p => (prw_ok R0.out p).held M4.out
  have c1 : ∀ V', Kp V2 V' → Calls Try.prog 21 #[.pointer (some ⟨x, 0, none⟩)] V' fun e w' => e = .returned (.int .i64 (md : Int)) ∧ Kp V2 w' := fun V' k => (S1.out V' k).mono fun e w' ⟨he, hw⟩ => ⟨he, by rw [hw]; exact k⟩
  have c2' : ∀ V', Kp V2 V' → Calls Try.prog 20 #[.pointer (some ⟨x, 0, none⟩)] V' fun e w' => e = .returned (.bool of) ∧ Kp V2 w' := fun V' k => (S2.out V' k).mono fun e w' ⟨he, hw⟩ => ⟨he, by rw [hw]; exact k⟩
  have c3 : ∀ V', Kp V2 V' → Calls Try.prog 23 #[.pointer (some ⟨x, 0, none⟩)] V' fun e w' => e = .returned (.int .i64 (N : Int)) ∧ Kp V2 w' := fun V' k => (S3.out V' k).mono fun e w' ⟨he, hw⟩ => ⟨he, by rw [hw]; exact k⟩
  go_wp2_with fail
  refine wp_region_pr (Kp V2) R0.out (by kernel_rfl) (by kernel_rfl) ?_
  repeat (first
    | go_big_quiet_skip
    | (go_big_quiet_want; go_big_quiet_op; go_big_quiet_on)
    | (go_big_quiet_want; go_big_quiet_op; apply Exists.intro; refine ⟨fun p => ?_, ?_⟩; (focus
        first
        | (go_at_call 21; exact pr_call (c1 _ (prw_ok R0.out p)))
        | (go_at_call 20; exact pr_call (c2' _ (prw_ok R0.out p)))
        | (go_at_call 23; exact pr_call (c3 _ (prw_ok R0.out p)))); go_big_quiet_on))
  refine wpQuiet_nil ?_
  rintro w2 ⟨p, hp⟩
  have P2 : Hid (Kp V2 w2) := by
    show Kp V2 w2
    rw [hp]; exact prw_ok R0.out p
  clear hp q0 q1 q2 c1 c2' c3
  go_wp2_with fail
  go_loopw [48] (fun i wr => ∃ k : Nat, k ≤ n ∧ i = .int .i64 k ∧ Hid (Kp V2 wr)) (fun i _ => n - (intOf i).toNat)
  case atStart => exact ⟨0, by omega, by go_num, P2⟩
  case round =>
    clear P2
    obtain ⟨k, hk, rfl, HKr⟩ := hrel
    by_cases hlt : k < n
    · have hkL : k < L.length := by rw [← HN.out]; exact hlt
      obtain ⟨rfl, _, _⟩ := HP3.out (by omega)
      obtain ⟨rfl, _, _⟩ := HR3.out (by omega)
      have f1 : wr.cell? ⟨g1, k, none⟩ = some (.int .i64 ((L.getD k 0 : Nat) : Int)) := HKr.out.held (HK2.out.held (HP4.out k hkL))
      have f2 : wr.cell? ⟨g2, k, none⟩ = some (.int .i64 ((L.getD k 0 : Nat) : Int)) := HKr.out.held (HR4.out k hkL)
      obtain ⟨z, hz⟩ : ∃ z : Int, z = ((L.getD k 0 : Nat) : Int) := ⟨_, rfl⟩
      rw [← hz] at f1 f2
      have HK4 : ∀ nq, Hid (Kp V2 (wr.drewN nq)) := fun nq => ⟨HKr.out.os, HKr.out.tape, HKr.out.output, HKr.out.size, HKr.out.block⟩
      clear hz hkL
      go_wp2_with fail
      go_quiet (fail)
      go_wp2
      go_roundw
      case rel => exact ⟨k + 1, by omega, by go_num, HK4 _⟩
      case measure => simp [intOf]; omega
    · obtain rfl : k = n := by omega
      have hq := hid (HD2.out.kp HKr.out)
      go_wp2
      go_ret
      exact ⟨rfl, hq.out⟩

end Go.Proofs.Ytmklkdopmemfaaa
