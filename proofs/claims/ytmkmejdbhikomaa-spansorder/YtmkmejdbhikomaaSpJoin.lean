/-
  Contract of spans' Join: the places that one of two lists has. Conditions: that the lists' cells hold the spans.
-/
import Derived.Test.YtmkmejdbhikomaaSpHas
namespace Go.Proofs.Ytmkmejdbhikomaa
open Go.RowKit Plain
set_option linter.unusedVariables false

def jnE (l m : List (Int × Int)) : Int := if gL l = true then (if gL m = true then 0 else 4) else 4
/-- Join, part of the way: J is made, A and B are left. -/
structure JI (l m J A B : List (Int × Int)) : Prop where
  nb : Nb (-1) J
  hi : ∀ p ∈ J, p.2 ≤ mA
  ga : G A
  gb : G B
  same : ∀ x, ((hs J x || hs A x) || hs B x) = (hs l x || hs m x)
  ahead : ∀ p ∈ J, (∀ q ∈ A, p.1 ≤ q.1) ∧ ∀ q ∈ B, p.1 ≤ q.1
  len : J.length + A.length + B.length ≤ l.length + m.length
theorem JI.swap {l m J A B : List (Int × Int)} (h : JI l m J A B) : JI l m J B A :=
  ⟨h.nb, h.hi, h.gb, h.ga, fun x => by rw [← h.same x]; cases hs J x <;> cases hs A x <;> cases hs B x <;> rfl, fun p hp => ⟨(h.ahead p hp).2, (h.ahead p hp).1⟩, by have := h.len; omega⟩
theorem JI.step {l m J A B : List (Int × Int)} {h : (Int × Int)} (k : JI l m J (h :: A) B) (hb : ∀ q ∈ B, h.1 ≤ q.1) : JI l m (strL J h) A B := by
  have hh := k.ga.lo h (by simp)
  obtain ⟨s1, s2, s3, s4, s5, s6⟩ := str_ok k.nb (s := h) (by omega) hh.2.1 (fun p hp => (k.ahead p hp).1 h (by simp))
  have hA : ∀ q ∈ A, h.1 ≤ q.1 := fun q hq => by have := (k.ga.nb.2.2.mem q hq).1; omega
  refine ⟨s1, s4 mA k.hi hh.2.2, ?_, k.gb, fun x => ?_, fun p hp => ⟨fun q hq => ?_, fun q hq => ?_⟩, ?_⟩
  · have := k.ga.drop 1
    simpa using this
  · rw [← k.same x, s2 x, hs_cons]
    cases hs J x <;> cases inS h x <;> cases hs A x <;> cases hs B x <;> rfl
  · have h1 := s3 p hp; have h2 := hA q hq; omega
  · have h1 := s3 p hp; have h2 := hb q hq; omega
  · have := k.len; rw [List.length_cons] at this; omega
theorem head_in {w : World} {v : Value} {h : (Int × Int)} {A : List (Int × Int)} (hs : SpIn w v (h :: A)) : ∃ b off n cap, v = .slice (some ⟨b, off, none⟩) n cap ∧ n = A.length + 1 ∧ n ≤ cap ∧ cap ≤ 9223372036854775807 ∧ w.cell? ⟨b, off, none⟩ = some (.int .i64 h.1) ∧ w.cell? ⟨b, off + 1, none⟩ = some (.int .i64 h.2) ∧
    (∀ W, (Instr.slice 26 (.slice (some ⟨b, off, none⟩) n cap) (some (.int .i64 1)) none none).run Try.prog W = .ok (.slice (cutA (some ⟨b, off, none⟩) cap 1) (n - 1) (cap - 1)) W) ∧ SpIn w (.slice (cutA (some ⟨b, off, none⟩) cap 1) (n - 1) (cap - 1)) A := by
  obtain ⟨a, b, off, cap, rfl, hA⟩ := hs
  obtain rfl := hA.ha (by simp)
  have hle := hA.le
  have hmx := hA.mx
  rw [List.length_cons] at hle
  unfold maxLen at hmx
  refine ⟨b, off, A.length + 1, cap, rfl, rfl, hle, by omega, ?_, ?_, fun W => run_tail _ (A.length + 1) cap 1 (by omega) hle W, ?_⟩
  · have := hA.c0 0 (by simp); simpa using this
  · have := hA.c1 0 (by simp); simpa using this
  · have := SpIn.tail hA 1 (by simp)
    simpa using this
theorem empty_in {w : World} {v : Value} (hs : SpIn w v []) : ∃ a cap, v = .slice a 0 cap := by
  obtain ⟨a, b, off, cap, rfl, hA⟩ := hs
  exact ⟨a, cap, rfl⟩
theorem le_all {f : (Int × Int)} {A : List (Int × Int)} (hG : G (f :: A)) {c : Int} (h : c ≤ f.1) : ∀ q ∈ f :: A, c ≤ q.1 := fun q hq => by
  rcases List.mem_cons.1 hq with e | hq
  · rw [e]; exact h
  · have h1 := (hG.nb.2.2.mem q hq).1
    have h2 := hG.nb.2.1
    omega
def lenV : Value → Nat | .slice _ n _ => n | _ => 0
theorem lenV_sp {w : World} {v : Value} {l : List (Int × Int)} (h : SpIn w v l) : lenV v = l.length := by
  obtain ⟨a, b, off, cap, rfl, _⟩ := h
  rfl
set_option maxRecDepth 100000 in
set_option maxHeartbeats 4000000 in
theorem join_any (v1 v2 : Value) (l m : List (Int × Int)) (w : World) (h1 : SpIn w v1 l) (h2 : SpIn w v2 m) (hl1 : l.length ≤ 1000) (hl2 : m.length ≤ 1000) : Calls Try.prog 26 #[v1, v2] w fun e w' => ∃ u R, e = .returned (.tuple #[u, .int .i64 (jnE l m)]) ∧ SpIn w' u R ∧ Kp w w' ∧ (jnE l m = 0 → G R ∧ ∀ x, hs R x = (hs l x || hs m x)) ∧ (jnE l m ≠ 0 → R = []) := by
  have hA := good_any v1 l w h1
  have hB : ∀ w', Kp w w' → Calls Try.prog 17 #[v2] w' fun e w'' => e = .returned (.bool (gL m)) ∧ Kp w' w'' := fun w' k => good_any v2 m w' (h2.kept k)
  cases e1 : gL l with
  | false =>
    have HE : Hid (jnE l m = 4) := if_neg (by simp [e1])
    rw [e1] at hA
    clear e1 hB h1 h2
    go_enter Try.func26, Try.ntmps26
    go_wp2_with fail
    refine hA.mono ?_; rintro e w1 ⟨rfl, k1⟩
    clear hA
    go_wp2
    go_ret2
    exact ⟨_, [], by rw [HE.out]; rfl, SpIn.nil _, k1, fun h => absurd (HE.out.symm.trans h) (by decide), fun _ => rfl⟩
  | true =>
    rw [e1] at hA
    cases e2 : gL m with
    | false =>
      have HE : Hid (jnE l m = 4) := (if_pos e1).trans (if_neg (by simp [e2]))
      rw [e2] at hB
      clear e1 e2 h1 h2
      go_enter Try.func26, Try.ntmps26
      go_wp2_with fail
      refine hA.mono ?_; rintro e w1 ⟨rfl, k1⟩
      clear hA
      go_wp2_with fail
      refine (hB w1 k1).mono ?_; rintro e w2 ⟨rfl, k2⟩
      have K2 := k1.trans k2
      clear hB k1 k2
      go_wp2
      go_ret2
      exact ⟨_, [], by rw [HE.out]; rfl, SpIn.nil _, K2, fun h => absurd (HE.out.symm.trans h) (by decide), fun _ => rfl⟩
    | true =>
      have HE : Hid (jnE l m = 0) := (if_pos e1).trans (if_pos e2)
      rw [e2] at hB
      have HI : Hid (JI l m [] l m) := ⟨trivial, fun p hp => by simp at hp, (gL_iff l).1 e1, (gL_iff m).1 e2, fun x => by simp [hs], fun p hp => by simp at hp, by simp⟩
      have H1 : Hid (SpIn w v1 l) := h1
      have H2 : Hid (SpIn w v2 m) := h2
      obtain ⟨a1, b1, o1, p1, rfl, _⟩ := h1
      obtain ⟨a2, b2, o2, p2, rfl, _⟩ := h2
      obtain ⟨n1, e3⟩ : ∃ n1, n1 = l.length := ⟨_, rfl⟩
      obtain ⟨n2, e4⟩ : ∃ n2, n2 = m.length := ⟨_, rfl⟩
      rw [← e3] at hA hl1 H1 ⊢
      rw [← e4] at hB hl2 H2 ⊢
      have HLn : Hid (l.length + m.length ≤ 2000) := by show _ ≤ _; omega
      clear e1 e2 e3 e4
      obtain ⟨i0, hi, hz0, hz1, hz3⟩ := info_parts elt26.i
      go_enter Try.func26, Try.ntmps26
      go_wp2_with fail
      refine hA.mono ?_; rintro e w1 ⟨rfl, k1⟩
      clear hA
      go_wp2_with fail
      refine (hB w1 k1).mono ?_; rintro e w2 ⟨rfl, k2⟩
      have K2 : Hid (Kp w w2) := k1.trans k2
      clear hB k1 k2
      go_wp2_with (at_make; refine wpList_make_own _ rfl _ _ 26 rfl w.heap.size 30 i0 (.agg #[.int .i64 0, .int .i64 0]) 2 Try.underlying26 hi hz0 hz1 .i64 .i64 _ (n1 + n2) rfl rfl (by omega) (by rw [hz3]; omega) (by unfold maxLen; omega) K2.out.size ?_; intro w3 hown3 hgrow3)
      have K3 : Hid (Kp w w3) := K2.out.grown hgrow3 (fun k hk => by cases hk)
      have HO3 : Hid (Own w3 w.heap.size 30 (.slice (some ⟨w2.heap.size, 0, none⟩) 0 (n1 + n2)) []) := hown3
      clear hown3 hgrow3 hi hz0 hz1 hz3 K2
      go_loopw [0, 1, 6] (fun q0 q1 q6 wr => ∃ J A B : List (Int × Int), Hid (SpIn w q0 A) ∧ Hid (SpIn w q1 B) ∧ Hid (Own wr w.heap.size 30 q6 J) ∧ Hid (JI l m J A B) ∧ Kp w wr) (fun q0 q1 _ _ => lenV q0 + lenV q1)
      case atStart => exact ⟨[], l, m, H1, H2, HO3, HI, K3⟩
      case round =>
        clear H1 H2 HO3 HI K3
        obtain ⟨J, A, B, HA, HB, HQ, HI, hK⟩ := hrel
        have HJl : Hid (J.length ≤ 100000) := by have := HI.out.len; have := HLn.out; show _ ≤ _; omega
        cases A with
        | nil =>
          cases B with
          | nil =>
            obtain ⟨a3, p3, rfl⟩ := empty_in HA.out
            obtain ⟨a4, p4, rfl⟩ := empty_in HB.out
            go_wp2
            go_ret2
            have hI := HI.out
            refine ⟨_, J, by rw [HE.out]; rfl, HQ.out.sp, hK, fun _ => ⟨⟨hI.nb, hI.hi⟩, fun x => ?_⟩, fun h => absurd HE.out h⟩
            have := hI.same x
            simpa [hs] using this
          | cons h B =>
            obtain ⟨b, off, n, cap, rfl, hn, hnc, hcm, c0, c1, htl, htI⟩ := head_in HB.out
            obtain ⟨a4, p4, rfl⟩ := empty_in HA.out
            have hpos : 0 < n := by omega
            have hnI : (0 : Int) < (n : Int) := by omega
            have HM : Hid (n = B.length + 1) := hn
            have HT : Hid (SpIn w (.slice (cutA (some ⟨b, off, none⟩) cap 1) (n - 1) (cap - 1)) B) := htI
            have d0 := hK.held c0
            have d1 := hK.held c1
            have HS : Hid (JI l m (strL J h) B []) := HI.out.swap.step (fun q hq => by simp at hq)
            have hS := fun v => stretch_any w.heap.size v J h
            obtain ⟨x, y⟩ := h
            unfold spV at hS
            simp only at d0 d1 hS
            have g0 : (0 : Int) = 0 := rfl
            clear hn htI c0 c1 HB HI
            go_wp2_with fail
            go_quiet (fail)
            obtain ⟨W, hW⟩ : ∃ W, W = wr.drewN nq := ⟨_, rfl⟩
            have kW : Kp wr W := by rw [hW]; exact (Kp.refl wr).drewN _
            rw [← hW]
            have r0 := kW.held d0
            have r1 := kW.held d1
            have KW : Hid (Kp w W) := hK.trans kW
            have KK : Hid (Kp wr W) := kW
            clear hW kW d0 d1 hK
            go_wp2_with fail
            refine (hS _ W (HQ.out.kept KK.out) KW.out.size HJl.out).mono ?_; rintro e W2 ⟨u, rfl, ho2, bl2⟩
            have HO2 : Hid (Own W2 w.heap.size 30 u (strL J (x, y))) := ho2
            have K2 : Kp w W2 := Below.trans KW.out bl2
            clear hS ho2 bl2 KW KK HQ r0 r1
            go_wp2
            go_roundw
            case rel => exact ⟨strL J (x, y), B, [], HT, HA, HO2, HS, K2⟩
            case measure => simp [lenV]; omega
        | cons f A =>
          cases B with
          | nil =>
            obtain ⟨b, off, n, cap, rfl, hn, hnc, hcm, c0, c1, htl, htI⟩ := head_in HA.out
            obtain ⟨a4, p4, rfl⟩ := empty_in HB.out
            have hpos : 0 < n := by omega
            have hnI : (0 : Int) < (n : Int) := by omega
            have HM : Hid (n = A.length + 1) := hn
            have HT : Hid (SpIn w (.slice (cutA (some ⟨b, off, none⟩) cap 1) (n - 1) (cap - 1)) A) := htI
            have d0 := hK.held c0
            have d1 := hK.held c1
            have HS : Hid (JI l m (strL J f) A []) := HI.out.step (fun q hq => by simp at hq)
            have hS := fun v => stretch_any w.heap.size v J f
            obtain ⟨x, y⟩ := f
            unfold spV at hS
            simp only at d0 d1 hS
            have g0 : ((n : Int) == 0) = false := beq_eq_false_iff_ne.2 (by omega)
            have g1 : decide ((0 : Int) < 0) = false := rfl
            clear hn htI c0 c1 HA HI
            go_wp2_with fail
            go_quiet (fail)
            obtain ⟨W, hW⟩ : ∃ W, W = wr.drewN nq := ⟨_, rfl⟩
            have kW : Kp wr W := by rw [hW]; exact (Kp.refl wr).drewN _
            rw [← hW]
            have r0 := kW.held d0
            have r1 := kW.held d1
            have KW : Hid (Kp w W) := hK.trans kW
            have KK : Hid (Kp wr W) := kW
            clear hW kW d0 d1 hK
            go_wp2_with fail
            refine (hS _ W (HQ.out.kept KK.out) KW.out.size HJl.out).mono ?_; rintro e W2 ⟨u, rfl, ho2, bl2⟩
            have HO2 : Hid (Own W2 w.heap.size 30 u (strL J (x, y))) := ho2
            have K2 : Kp w W2 := Below.trans KW.out bl2
            clear hS ho2 bl2 KW KK HQ r0 r1
            go_wp2
            go_roundw
            case rel => exact ⟨strL J (x, y), A, [], HT, HB, HO2, HS, K2⟩
            case measure => simp [lenV]; omega
          | cons h B =>
            by_cases hlt : h.1 < f.1
            · obtain ⟨b, off, n, cap, rfl, hn, hnc, hcm, c0, c1, htl, htI⟩ := head_in HB.out
              obtain ⟨b2, off2, n2', cap2, e2v, hn2, hnc2, hcm2, e0, e1, _, _⟩ := head_in HA.out
              subst e2v
              have f0 := hK.held e0
              have hpos2 : 0 < n2' := by omega
              have hnI2 : (0 : Int) < (n2' : Int) := by omega
              have HM2 : Hid (n2' = A.length + 1) := hn2
              clear hn2 e1
              have hpos : 0 < n := by omega
              have hnI : (0 : Int) < (n : Int) := by omega
              have HM : Hid (n = B.length + 1) := hn
              have HT : Hid (SpIn w (.slice (cutA (some ⟨b, off, none⟩) cap 1) (n - 1) (cap - 1)) B) := htI
              have d0 := hK.held c0
              have d1 := hK.held c1
              have HS : Hid (JI l m (strL J h) B (f :: A)) := HI.out.swap.step (le_all HI.out.ga (Int.le_of_lt hlt))
              have hS := fun v => stretch_any w.heap.size v J h
              obtain ⟨x, y⟩ := h
              unfold spV at hS
              simp only at d0 d1 hS e0 hlt
              have g0 : ((n2' : Int) == 0) = false := beq_eq_false_iff_ne.2 (by omega)
              have f1 : (wr.cell? ⟨b2, off2, none⟩) = some (.int .i64 f.1) := f0
              clear f0 e0
              clear hn htI c0 c1 HB HI
              go_wp2_with fail
              go_quiet (fail)
              obtain ⟨W, hW⟩ : ∃ W, W = wr.drewN nq := ⟨_, rfl⟩
              have kW : Kp wr W := by rw [hW]; exact (Kp.refl wr).drewN _
              rw [← hW]
              have r0 := kW.held d0
              have r1 := kW.held d1
              have KW : Hid (Kp w W) := hK.trans kW
              have KK : Hid (Kp wr W) := kW
              clear hW kW d0 d1 hK
              go_wp2_with fail
              refine (hS _ W (HQ.out.kept KK.out) KW.out.size HJl.out).mono ?_; rintro e W2 ⟨u, rfl, ho2, bl2⟩
              have HO2 : Hid (Own W2 w.heap.size 30 u (strL J (x, y))) := ho2
              have K2 : Kp w W2 := Below.trans KW.out bl2
              clear hS ho2 bl2 KW KK HQ r0 r1
              go_wp2
              go_roundw
              case rel => exact ⟨strL J (x, y), B, (f :: A), HT, HA, HO2, HS, K2⟩
              case measure => simp [lenV]; omega
            · obtain ⟨b, off, n, cap, rfl, hn, hnc, hcm, c0, c1, htl, htI⟩ := head_in HA.out
              obtain ⟨b2, off2, n2', cap2, e2v, hn2, hnc2, hcm2, e0, e1, _, _⟩ := head_in HB.out
              subst e2v
              have f0 := hK.held e0
              have hpos2 : 0 < n2' := by omega
              have hnI2 : (0 : Int) < (n2' : Int) := by omega
              have HM2 : Hid (n2' = B.length + 1) := hn2
              clear hn2 e1
              have hpos : 0 < n := by omega
              have hnI : (0 : Int) < (n : Int) := by omega
              have HM : Hid (n = A.length + 1) := hn
              have HT : Hid (SpIn w (.slice (cutA (some ⟨b, off, none⟩) cap 1) (n - 1) (cap - 1)) A) := htI
              have d0 := hK.held c0
              have d1 := hK.held c1
              have HS : Hid (JI l m (strL J f) A (h :: B)) := HI.out.step (le_all HI.out.gb (Int.not_lt.1 hlt))
              have hS := fun v => stretch_any w.heap.size v J f
              obtain ⟨x, y⟩ := f
              unfold spV at hS
              simp only at d0 d1 hS e0 hlt
              have g0 : ((n : Int) == 0) = false := beq_eq_false_iff_ne.2 (by omega)
              have g2 : decide (h.1 < x) = false := decide_eq_false hlt
              clear e0
              clear hn htI c0 c1 HA HI
              go_wp2_with fail
              go_quiet (fail)
              obtain ⟨W, hW⟩ : ∃ W, W = wr.drewN nq := ⟨_, rfl⟩
              have kW : Kp wr W := by rw [hW]; exact (Kp.refl wr).drewN _
              rw [← hW]
              have r0 := kW.held d0
              have r1 := kW.held d1
              have KW : Hid (Kp w W) := hK.trans kW
              have KK : Hid (Kp wr W) := kW
              clear hW kW d0 d1 hK
              go_wp2_with fail
              refine (hS _ W (HQ.out.kept KK.out) KW.out.size HJl.out).mono ?_; rintro e W2 ⟨u, rfl, ho2, bl2⟩
              have HO2 : Hid (Own W2 w.heap.size 30 u (strL J (x, y))) := ho2
              have K2 : Kp w W2 := Below.trans KW.out bl2
              clear hS ho2 bl2 KW KK HQ r0 r1
              go_wp2
              go_roundw
              case rel => exact ⟨strL J (x, y), A, (h :: B), HT, HB, HO2, HS, K2⟩
              case measure => simp [lenV]; omega

end Go.Proofs.Ytmkmejdbhikomaa
