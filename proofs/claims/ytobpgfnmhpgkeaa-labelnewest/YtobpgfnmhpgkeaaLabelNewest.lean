/-
  For every list of labels as plain data and every list of texts the law function LabelNewest returns true (Go: trunnionlaw12.LabelNewest). No condition.
-/
import Derived.Test.YtobpgfnmhpgkeaaRows
import Derived.Test.YtobpgfnmhpgkeaaBufArgs
import Derived.Test.YtobpgfnmhpgkeaaLbLabels
import Derived.Test.YtobpgfnmhpgkeaaLbWakes
import Derived.Test.YtobpgfnmhpgkeaaLbRPut
import Derived.Test.YtobpgfnmhpgkeaaLbSame
import Derived.Test.YtobpgfnmhpgkeaaLbNewest
import Derived.Test.YtobpgfnmhpgkeaaLbStrs
import Derived.Test.YtobpgfnmhpgkeaaLbArgs
import Derived.WalkKit
import Derived.ProofKit
import Derived.OpenShut
import Derived.ShutString
import Derived.Deep.QuietTactic
import Derived.BigQuiet
import Derived.Deep.RegionWith
import Derived.Deep.RegionHeld3
import Derived.Deep.DeepCutAuto
import Derived.Deep.CutBlock
namespace Go.Proofs.Ytobpgfnmhpgkeaa.labelNewest
open Go.ChangeShapes Go.WideShapes Go.ChangeAt Go.RowKit
open Go.ChangeMaps (open_string shut_string)
open Go.Proofs.Ytobpgfnmhpgkeaa Plain
set_option linter.unusedVariables false

theorem own : ownKnob Try.prog.godebug = none := by kernel_rfl
theorem laidOut : laidOutB Try.prog = true := by kernel_rfl
theorem cellsS : Try.prog.cellsOf 9 = 1 := by kernel_rfl
set_option maxRecDepth 100000 in
set_option maxHeartbeats 8000000 in
theorem walkN (w : World) (v0 : Value) (L : List RL) (h0 : Raws w v0 L) (v1 : Value) (l : List ByteArray) (h1 : StrsIn w v1 l) (hs : ∀ i, i < l.length → (l.getD i noS).size ≤ 9223372036854775807) :
    Calls Try.prog 6 #[v0, v1] w fun e w' => e = .returned (.bool true) ∧ Kp w w' := by
  obtain ⟨a, cap, rfl, hle, hmx, hsome⟩ := h0.h
  have HOK := hid h0.ok
  have hsh : ∃ a b off cap, v1 = .slice a l.length cap ∧ l.length ≤ cap ∧ cap ≤ 9223372036854775807 ∧ (0 < l.length → a = some ⟨b, off, none⟩) ∧ ∀ i, i < l.length → w.cell? ⟨b, off + i, none⟩ = some (.string (l.getD i noS)) := by
    cases h1 with
    | empty a cap h => unfold maxLen at h; exact ⟨a, 0, 0, cap, rfl, by simp, by omega, fun h => absurd h (by simp), fun i hi => absurd hi (by simp)⟩
    | some b off cap l h0 h1 h2 hc => unfold maxLen at h2; exact ⟨_, b, off, cap, rfl, h1, by omega, fun _ => rfl, hc⟩
  obtain ⟨b, g2, o2, cp2, rfl, hle2, hmx2, hsome2, hc2⟩ := hsh
  obtain ⟨N1, hN1⟩ : ∃ N, N = L.length := ⟨_, rfl⟩
  obtain ⟨N2, hN2⟩ : ∃ N, N = l.length := ⟨_, rfl⟩
  obtain ⟨t, ht⟩ : ∃ t, t = min N1 20 := ⟨_, rfl⟩
  rw [← hN1] at hle hsome HOK ⊢
  rw [← hN2] at hle2 hsome2 hc2 hs ⊢
  have HC2 := hid hc2
  have HSz := hid hs
  have b1 : t ≤ N1 := by omega
  have b3 : t ≤ 20 := by omega
  have m1 : N1 ≤ 9223372036854775807 := by omega
  have m2 : N2 ≤ 9223372036854775807 := by omega
  have hmin1 : ∀ (ts : Array TypeId) (ty : TypeId) (w : World), (Builtin.min_ ts ty #[.int .i64 (N1 : Int), .int .i64 20]).run Try.prog w = .ok (.int .i64 (t : Int)) w := fun ts ty w => by
    rw [imin]; congr 2; omega
  have hsl1 := fun W => run_headR a N1 cap t (by omega) W
  obtain ⟨d, hd⟩ : ∃ d, d = cutR a cap := ⟨_, rfl⟩
  rw [← hd] at hsl1
  have j1 : 0 < t → ∃ g off, d = some ⟨g, off, none⟩ ∧ ∀ i, i < N1 → w.rangeAt g (off + i * 5) (rcs (L.getD i noR)) := fun h => by
    obtain ⟨g, off, e, hr⟩ := hsome (by omega)
    exact ⟨g, off, by rw [hd, e, cutR_some], hr⟩
  have H0 : Hid (Ts w w.heap.size (.slice none 0 0) [] ∧ (∀ x, x ∈ ([] : List ByteArray) → x.size ≤ 9223372036854775807) ∧ ([] : List ByteArray).length ≤ 2 * 0 ∧ Kp w w) := ⟨World.ownsRow_nil _ _ _ _, fun x hx => absurd hx (by simp), by simp, Kp.refl w⟩
  clear hc2 hs hN1 hN2 ht hd hsome h0 h1
  go_enter Try.func6, Try.ntmps6
  go_wp2
  go_loopw [5, 22] (fun v i wr => ∃ (k : Nat) (T : List ByteArray) (u : Value), u = v ∧ k ≤ t ∧ i = .int .i64 k ∧ Hid (Ts wr w.heap.size u T ∧ (∀ x, x ∈ T → x.size ≤ 9223372036854775807) ∧ T.length ≤ 2 * k ∧ Kp w wr)) (fun _ i _ => t - (intOf i).toNat)
  case atStart => exact ⟨0, [], _, rfl, Nat.zero_le _, rfl, H0⟩
  case round =>
    clear H0
    obtain ⟨k, T, u, rfl, hk, rfl, HT⟩ := hrel
    by_cases hlt : k < t
    · obtain ⟨g, off, rfl, hr⟩ := j1 (by omega)
      obtain ⟨c0, c1, c2, c3, c4⟩ := Raws.cells (hr k (by omega))
      have okR := HOK.out k (by omega)
      obtain ⟨R, eR⟩ : ∃ x, x = L.getD k noR := ⟨_, rfl⟩
      rw [← eR] at c0 c1 c2 c3 c4 okR
      obtain ⟨n, s, ep, sv, mv, sts, mks⟩ := R
      obtain ⟨h1, h2⟩ := okR
      simp only at c0 c1 c2 c3 c4 h1 h2
      obtain ⟨ra, rn, rc, rfl⟩ := h1.shape
      obtain ⟨rb, rm', rd, rfl⟩ := h2.shape
      have hLb := fun w' (k : Kp w w') => labels_any n s ep _ _ sts mks w' (h1.kept k) (h2.kept k)
      unfold lV at hLb
      have HK := hid HT.out.2.2.2
      have c0 := HK.out.held c0
      have c1 := HK.out.held c1
      have c2 := HK.out.held c2
      have c3 := HK.out.held c3
      have c4 := HK.out.held c4
      clear eR h1 h2 hr HOK hmin1 hsl1
      go_wp2_with fail
      clear c0 c1 c2 c3 c4
      refine (hLb _ (HK.out.alloc _)).mono ?_; rintro e w1 ⟨sv1, mv1, sv2, mv2, rfl, ⟨n1, n2⟩, ⟨n3, n4⟩, k1⟩
      clear hLb
      obtain ⟨x1, y1, z1, rfl⟩ := n1.shape
      obtain ⟨x2, y2, z2, rfl⟩ := n2.shape
      obtain ⟨x3, y3, z3, rfl⟩ := n3.shape
      obtain ⟨x4, y4, z4, rfl⟩ := n4.shape
      obtain ⟨S, hS⟩ : ∃ S, S = sts.take 40 := ⟨_, rfl⟩
      obtain ⟨M, hM⟩ : ∃ M, M = mks.take 40 := ⟨_, rfl⟩
      rw [← hS] at n1 n3
      rw [← hM] at n2 n4
      have K1 : Hid (Kp wr w1) := Kp.trans ((Kp.refl wr).alloc _) k1
      have q2 := Lc.new (w1.alloc (.cells #[.int .i64 n, .int .i64 s, .int .i64 ep, .slice x1 y1 z1, .slice x2 y2 z2] 29)) n s ep (.slice x3 y3 z3) (.slice x4 y4 z4) 32
      rw [asz] at q2
      have kW : Kp w1 ((w1.alloc (.cells #[.int .i64 n, .int .i64 s, .int .i64 ep, .slice x1 y1 z1, .slice x2 y2 z2] 29)).alloc (.cells #[.int .i64 n, .int .i64 s, .int .i64 ep, .slice x3 y3 z3, .slice x4 y4 z4] 32)) := ((Kp.refl w1).alloc _).alloc _
      obtain ⟨W1, hW1⟩ : ∃ W, W = (w1.alloc (.cells #[.int .i64 n, .int .i64 s, .int .i64 ep, .slice x1 y1 z1, .slice x2 y2 z2] 29)).alloc (.cells #[.int .i64 n, .int .i64 s, .int .i64 ep, .slice x3 y3 z3, .slice x4 y4 z4] 32) := ⟨_, rfl⟩
      have HW1 := hid hW1
      rw [← hW1] at q2 kW
      have hp1 := rput_any ⟨n, s, ep, S, M⟩ _ _ W1 (n3.kept kW) (n4.kept kW)
      have KW1 : Hid (Kp wr W1) := K1.out.trans kW
      have hPz : (puS ⟨n, s, ep, S, M⟩).size ≤ 9223372036854775807 := by
        unfold puS
        split
        · rw [ptS_size]; omega
        · show (0 : Nat) ≤ _; omega
      simp only at hp1
      unfold lV at hp1
      obtain ⟨PS, ePS⟩ : ∃ x, x = puS ⟨n, s, ep, S, M⟩ := ⟨_, rfl⟩
      obtain ⟨PE, ePE⟩ : ∃ x, x = puE ⟨n, s, ep, S, M⟩ := ⟨_, rfl⟩
      rw [← ePS, ← ePE] at hp1
      rw [← ePS] at hPz
      have HPz := hid hPz
      obtain ⟨A, hA⟩ : ∃ A, A = w1.heap.size := ⟨_, rfl⟩
      rw [← hA] at q2
      have hA2 := hA.symm
      obtain ⟨b0, b1', b2, b3', b4⟩ := q2
      clear hW1 hS hM k1 n1 n2 n3 n4 kW K1 hA ePS ePE hPz
      go_wp2_with fail
      rw [← HW1.out]
      clear HW1 hA2
      refine hp1.mono ?_; rintro e w2 ⟨rfl, k2⟩
      have HKw2 := hid (HK.out.trans (KW1.out.trans k2))
      have HT2 := hid (HT.out.1.kept (KW1.out.trans k2))
      have hTl : T.length ≤ 1000 := by have := HT.out.2.2.1; omega
      have hTl2 : (T ++ [PS]).length ≤ 1000 := by have := HT.out.2.2.1; rw [List.length_append, List.length_singleton]; omega
      have hb2 : w.heap.size ≤ w2.heap.size := HKw2.out.size
      clear hp1 b0 b1' b2 b3' b4 k2
      by_cases hn : k < N2
      · obtain rfl := hsome2 (by omega)
        obtain ⟨y, ey⟩ : ∃ y, y = l.getD k noS := ⟨_, rfl⟩
        have hcy := HC2.out k hn
        have HYz := hid (HSz.out k hn)
        rw [← ey] at hcy HYz
        have HCy := hid hcy
        clear ey hcy
        go_wp2_with (at_builtin; first
          | (refine wpList_app_str rfl _ _ rfl w.heap.size _ T rfl (HT2.out.kept ((Kp.refl _).alloc _)) PS _ rfl (by rw [World.cell?_alloc_at _ _ _ _ rfl]; rfl) hTl (by rw [asz]; omega) ?_; intro v2 w9 h9 g9; have HT9 := hid h9; have HK9 := hid ((HKw2.out.alloc _).grown g9 (fun k e => (World.ownsRow.lt HT2.out k e).1)); have hc9 := HK9.out.held HCy.out; have hb9 : w.heap.size ≤ w9.heap.size := HK9.out.size; clear h9 g9)
          | (refine wpList_app_str rfl _ _ rfl w.heap.size _ (T ++ [PS]) rfl (HT9.out.kept ((Kp.refl _).alloc _)) y _ rfl (by rw [World.cell?_alloc_at _ _ _ _ rfl]; rfl) hTl2 (by rw [asz]; omega) ?_; intro v3 w10 h10 g10; have HT10 := hid h10; have HK10 := hid ((HK9.out.alloc _).grown g10 (fun k e => (World.ownsRow.lt HT9.out k e).1)); clear h10 g10))
        go_roundw
        case rel => exact ⟨k + 1, _, _, rfl, by omega, by go_num, HT10.out, fun x hx => by
            rcases List.mem_append.1 hx with h | h
            · rcases List.mem_append.1 h with h | h
              · exact HT.out.2.1 x h
              · rw [List.mem_singleton.1 h]; exact HPz.out
            · rw [List.mem_singleton.1 h]; exact HYz.out, by have := HT.out.2.2.1; simp only [List.length_append, List.length_singleton]; omega, HK10.out⟩
        case measure => simp [intOf]; omega
      · go_wp2_with (at_builtin; refine wpList_app_str rfl _ _ rfl w.heap.size _ T rfl (HT2.out.kept ((Kp.refl _).alloc _)) PS _ rfl (by rw [World.cell?_alloc_at _ _ _ _ rfl]; rfl) hTl (by rw [asz]; omega) ?_; intro v2 w9 h9 g9; have HT9 := hid h9; have HK9 := hid ((HKw2.out.alloc _).grown g9 (fun k e => (World.ownsRow.lt HT2.out k e).1)); clear h9 g9)
        go_roundw
        case rel => exact ⟨k + 1, _, _, rfl, by omega, by go_num, HT9.out, fun x hx => by
            rcases List.mem_append.1 hx with h | h
            · exact HT.out.2.1 x h
            · rw [List.mem_singleton.1 h]; exact HPz.out, by have := HT.out.2.2.1; simp only [List.length_append, List.length_singleton]; omega, HK9.out⟩
        case measure => simp [intOf]; omega
    · obtain rfl : t = k := by omega
      have hsz : ∀ i, i < T.length → (T.getD i noS).size ≤ 9223372036854775807 := fun i hi => HT.out.2.1 _ (by rw [List.getD_eq_getElem?_getD, List.getElem?_eq_getElem hi]; exact List.getElem_mem hi)
      have h1 := newest_any u T wr (StrsIn.owned HT.out.1) hsz
      have h2 := fun V (k : Kp wr V) => rnewest_any u T V (StrsIn.owned (HT.out.1.kept k)) hsz
      obtain ⟨Q, eQ⟩ : ∃ x, x = nwL T T.length := ⟨_, rfl⟩
      obtain ⟨F, eF⟩ : ∃ x, x = nwF T T.length := ⟨_, rfl⟩
      rw [← eQ, ← eF] at h1 h2
      have h3 := same_any Q
      obtain ⟨gn, gs, ge, gst, gmk⟩ := Q
      simp only at h1 h2 h3
      unfold lV at h1 h2 h3
      have HK := hid HT.out.2.2.2
      clear eQ eF hsz HOK HC2 HSz hmin1 hsl1 j1
      go_wp2_with fail
      refine h1.mono ?_; rintro e w2 ⟨u1, u2, rfl, m1, m2, k2⟩
      obtain ⟨f1, f2, f3, rfl⟩ := m1.shape
      obtain ⟨f4, f5, f6, rfl⟩ := m2.shape
      have l2 := Lc.new w2 gn gs ge (.slice f1 f2 f3) (.slice f4 f5 f6) 29
      have k3 : Kp w2 (w2.alloc (.cells #[.int .i64 gn, .int .i64 gs, .int .i64 ge, .slice f1 f2 f3, .slice f4 f5 f6] 29)) := (Kp.refl w2).alloc _
      obtain ⟨w3, hw3⟩ : ∃ V, V = w2.alloc (.cells #[.int .i64 gn, .int .i64 gs, .int .i64 ge, .slice f1 f2 f3, .slice f4 f5 f6] 29) := ⟨_, rfl⟩
      have HW3 := hid hw3
      rw [← hw3] at l2 k3
      obtain ⟨C, hC⟩ : ∃ C, C = w2.heap.size := ⟨_, rfl⟩
      rw [← hC] at l2
      have hC2 := hC.symm
      have HL3 := hid l2
      have HM3 := hid (And.intro (m1.kept k3) (m2.kept k3))
      have HK3 := hid (k2.trans k3)
      clear h1 l2 hw3 hC m1 m2 k2 k3
      go_wp2_with fail
      rw [← HW3.out]
      refine (h2 w3 HK3.out).mono ?_; rintro e w4 ⟨u1, u2, rfl, m1, m2, k4⟩
      obtain ⟨f7, f8, f9, rfl⟩ := m1.shape
      obtain ⟨g7, g8, g9, rfl⟩ := m2.shape
      have k5 : Kp w4 (w4.alloc (.cells #[.int .i64 gn, .int .i64 gs, .int .i64 ge, .slice f7 f8 f9, .slice g7 g8 g9] 32)) := (Kp.refl w4).alloc _
      have l5 := Lc.new w4 gn gs ge (.slice f7 f8 f9) (.slice g7 g8 g9) 32
      obtain ⟨w5, hw5⟩ : ∃ V, V = w4.alloc (.cells #[.int .i64 gn, .int .i64 gs, .int .i64 ge, .slice f7 f8 f9, .slice g7 g8 g9] 32) := ⟨_, rfl⟩
      have HW5 := hid hw5
      rw [← hw5] at k5 l5
      obtain ⟨D, hD⟩ : ∃ D, D = w4.heap.size := ⟨_, rfl⟩
      rw [← hD] at l5
      have hD2 := hD.symm
      have HS := hid (fun V (k : Kp w5 V) => h3 _ _ _ _ V (((HM3.out.1.kept k4).kept k5).kept k) (((HM3.out.2.kept k4).kept k5).kept k) ((m1.kept k5).kept k) ((m2.kept k5).kept k))
      have HL5 := hid ((HL3.out.kept k4).kept k5)
      have HL6 := hid l5
      have HK5 := hid ((HK.out.trans HK3.out).trans (k4.trans k5))
      clear h2 h3 HW3 hC2 k4 k5 m1 m2 HL3 HM3 HK3 hw5 l5 hD
      go_wp2_with fail
      rw [← HW5.out]
      clear HW5 hD2
      refine (wakes_any w5).mono ?_; rintro e w6 ⟨rfl, k6⟩
      obtain ⟨d0, d1, d2, d3, d4⟩ := HL5.out.kept k6
      obtain ⟨e0, e1, e2, e3, e4⟩ := HL6.out.kept k6
      have hS6 := HS.out w6 k6
      have HK6 := hid (HK5.out.trans k6)
      clear k6 HS HL5 HL6 HK5
      go_wp2_with fail
      refine hS6.mono ?_; rintro e w7 ⟨rfl, k7⟩
      have HK7 := hid (HK6.out.trans k7)
      clear hS6 d0 d1 d2 d3 d4 e0 e1 e2 e3 e4 k7
      go_wp2
      go_ret
      exact ⟨rfl, HK7.out⟩
theorem walk (w : World) (a0 : Value) (l0 : List RL) (a1 : Value) (l1 : List ByteArray) (w0 : Raws w a0 l0) (w1 : StrsIn w a1 l1) (x1 : ∀ i, i < l1.length → (l1.getD i noS).size ≤ maxLen) :
    Calls Try.prog 6 #[a0, a1] w fun e w' => e = .returned (.bool true) ∧ Kp w w' := by
  exact walkN w a0 l0 w0 a1 l1 w1 (fun i hi => by have := x1 i hi; unfold maxLen at this; omega)

set_option maxRecDepth 100000 in
theorem lifted (os : Os) (started : os.Started) (H : Type) (enc : TypeId × Value → H) :
    ReturnsInHanded {} Try.checked os 6 .any (Rows.labelNewestSpec.pre6 enc Try.prog Try.f6 Rows.labelNewestRow.domain false) (Rows.labelNewestSpec.post enc Try.prog Try.f6 false true false false) := by
  refine returnsInHanded_of_change (C := Try.checked) own started (by kernel_rfl) Try.func6
    (ChangeSpec.witness6 (enc := enc) (C := Try.checked) false ⟨#[], #[.slice none 0 0, .slice none 0 0], []⟩ 8 (by kernel_rfl) (by kernel_rfl) (by kernel_rfl) (by kernel_rfl)) ?_
  intro W base args ds gs before hval0 hW hcnd _
  have hval : ∀ (j : Nat) t v, Try.f6.params[j]? = some t → args[j]? = some v → Value.okWide Try.prog W .any base t v := hval0
  have hW' := hW
  have hlt := hW.lt
  obtain ⟨p, q, hA0, hV, rfl, hfz, hnd⟩ := hW
  have hA : DataW.TrodAll enc Try.prog W 0 (fun _ => true) true Try.f6.params.toList args.toList ds p := hA0
  have hAk := hA
  rw [Try.params6] at hA hval
  obtain ⟨v0, vs0, d0, ds0, p0, q0, hargs, rfl, rfl, h0, r0⟩ := trodAll_cons hA
  obtain ⟨v1, vs1, d1, ds1, p1, q1, rfl, rfl, rfl, h1, r1⟩ := trodAll_cons r0
  obtain ⟨rfl, rfl, rfl⟩ := trodAll_nil r1
  obtain rfl : args = #[v0, v1] := by cases args; simp_all
  obtain ⟨rfl, rfl⟩ := trodVars_none hV
  obtain ⟨l0, w0⟩ := open_raws (hval 0 59 v0 rfl rfl) h0
  obtain ⟨l1, w1, x1⟩ := open_strs Try.underlying49 Try.underlying9 cellsS (hval 1 49 v1 rfl rfl) h1
  clear hA0 hval0
  simp only [List.append_nil] at hW' hAk hlt
  refine (walk W v0 l0 v1 l1 w0 w1 x1).mono fun e W' ⟨he, hg⟩ => ?_
  subst he
  exact ⟨_, rfl, post_kp (pv := []) hW' (fun _ _ _ => (trodAll_cons_mk (shut_bool Try.underlying4 _) trodAll_mk0)) (fun sp hsp => trodAll_stays laidOut (by rw [Try.params6]; exact of_decide_eq_true (by kernel_rfl)) hAk (fun x hx => Below.same hg (hlt x hx)) hsp) (fun _ _ => rfl) (by simp) hg⟩

theorem over : Rows.labelNewestRow.holds Try.pinned (OpenSpec.ofChange Rows.labelNewestSpec) :=
  OpenClaim.holds_of_wide 6 Try.f6 rfl rfl rfl rfl rfl rfl rfl ⟨rfl, rfl, rfl, rfl, rfl⟩ rfl rfl rfl rfl rfl (by kernel_rfl) Try.func6 (by kernel_rfl)
    (of_decide_eq_true (by kernel_rfl)) (by unfold Func.isWrapper; first | (rw [if_pos (by decide +kernel)]; kernel_rfl) | (rw [if_neg (by decide +kernel)]; exact ⟨rfl, rfl⟩))
    (fun os started H enc _ => lifted os started H enc)

end Go.Proofs.Ytobpgfnmhpgkeaa.labelNewest
namespace Go.Proofs.Ytobpgfnmhpgkeaa
theorem labelNewest_holds : Rows.LabelNewestSaid := labelNewest.over
end Go.Proofs.Ytobpgfnmhpgkeaa
