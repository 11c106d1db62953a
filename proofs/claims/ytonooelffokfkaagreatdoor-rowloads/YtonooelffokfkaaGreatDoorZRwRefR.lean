/-
  The document's has, Gone (layer 16). Conditions: that the bay and the label's lists lie in memory.
-/
import Derived.Test.YtonooelffokfkaaGreatDoorZRwRefL
import Derived.Test.YtonooelffokfkaaGreatDoorZRepF
namespace Go.Proofs.YtonooelffokfkaaGreatDoor
open Go.RowKit Plain
set_option linter.unusedVariables false

theorem mem_step (l : List Int) (n : Int) (k : Nat) (hk : k < l.length) : n ∈ l.take (k + 1) ↔ n ∈ l.take k ∨ n = l.getD k 0 := by
  rw [List.take_succ_eq_append_getElem hk, List.mem_append, List.mem_singleton]
  rw [List.getD_eq_getElem?_getD, List.getElem?_eq_getElem hk]
  rfl
set_option maxRecDepth 100000 in
theorem rhas_any (v : Value) (l : List Int) (n : Int) (w : World) (h : IntsIn w v l) : Calls Tryz.prog 65 #[v, .int .i64 n] w fun e w' => e = .returned (.bool (l.contains n)) ∧ w' = w := by
  obtain ⟨a, g, o, c, rfl, l1, l2, l3, l4⟩ := ints_parts h
  obtain ⟨N, en⟩ : ∃ n, n = l.length := ⟨_, rfl⟩
  obtain ⟨b, hb⟩ : ∃ b, b = l.contains n := ⟨_, rfl⟩
  rw [← en] at l1 l3 ⊢
  rw [← hb]
  have l2' : c ≤ 9223372036854775807 := by unfold maxLen at l2; omega
  have HL3 := hid l3
  have HL4 := hid l4
  have HN := hid en
  have HB1 : Hid (n ∈ l → b = true) := fun hm => by rw [hb]; exact List.contains_iff_mem.2 hm
  have HB2 : Hid (n ∉ l → b = false) := fun hm => by
    cases e : b with
    | false => rfl
    | true => rw [e] at hb; exact absurd (List.contains_iff_mem.1 hb.symm) hm
  clear h en l3 l4 l2 hb
  go_enter Tryz.func65, Tryz.ntmps65
  go_wp2_with fail
  go_loopw [5] (fun i wr => ∃ k : Nat, k ≤ N ∧ i = .int .i64 k ∧ Hid (n ∉ l.take k) ∧ wr = w) (fun i _ => N - (intOf i).toNat)
  case atStart => exact ⟨0, by omega, by go_num, by show n ∉ l.take 0; simp, rfl⟩
  case round =>
    obtain ⟨k, hk, rfl, HC, rfl⟩ := hrel
    by_cases hlt : k < N
    · obtain rfl := HL3.out (by omega)
      have hkl : k < l.length := by rw [← HN.out]; exact hlt
      have c0 := HL4.out k hkl
      have HS := hid (mem_step l n k hkl)
      obtain ⟨z, hz⟩ : ∃ z, z = l.getD k 0 := ⟨_, rfl⟩
      rw [← hz] at c0 HS
      clear hz hkl
      by_cases e : z = n
      · subst e
        have HT := hid (HB1.out (List.mem_of_mem_take (HS.out.2 (.inr rfl))))
        clear HC HS
        go_wp2
        go_ret
        rw [HT.out]
        exact ⟨rfl, rfl⟩
      · have HC2 : Hid (n ∉ l.take (k + 1)) := fun hm => (HS.out.1 hm).elim HC.out (fun h => e h.symm)
        clear HC HS
        go_wp2
        go_roundw
        case rel => exact ⟨k + 1, by omega, by go_num, HC2, trivial⟩
        case measure => simp [intOf]; omega
    · have HF : Hid (b = false) := HB2.out (fun hm => HC.out (by rw [List.take_of_length_le (by rw [← HN.out]; omega)]; exact hm))
      clear HC
      go_wp2
      go_ret
      rw [HF.out]
      exact ⟨rfl, rfl⟩

def dgF (B : BS) (i : Nat) : Bool := (B.ms.getD i noM).dead
theorem dd_fl {B : BS} (hB : B.ms.length ≤ 32) : ddL B = (Plain.fl B.ms.length (dgF B)).map Int.ofNat := by
  have h1 : ∀ i, i < B.ms.length → ddF B i = dgF B i := fun i hi => by
    have := dd_has hB (m := (i : Int)) (by omega) (by omega)
    unfold hasB ddL bm at this
    rw [decide_eq_true (by omega), Int.toNat_natCast, inL_fl 256 _ i (by omega), Bool.true_and] at this
    exact this
  have h2 : ∀ i, B.ms.length ≤ i → i < 256 → ddF B i = false := fun i hi h9 => by
    unfold ddF lessF upF
    simp
    omega
  unfold ddL
  rw [fl_skip' (ddF B) B.ms.length 256 (by omega) h2, fl_congr _ _ _ h1]

theorem fl_step (k : Nat) (f : Nat → Bool) : (Plain.fl (k + 1) f).map Int.ofNat = if f k then (Plain.fl k f).map Int.ofNat ++ [(k : Int)] else (Plain.fl k f).map Int.ofNat := by
  rw [Plain.fl]
  split
  · rw [List.map_append]; rfl
  · rfl
set_option maxRecDepth 100000 in
set_option maxHeartbeats 4000000 in
theorem rgone_any {w0 w : World} {y : Nat} {R : List Nat} {B : BS} (h : Dw w0 w y R B) (L : LB) (sv mv : Value) (t : Int) (h1 : Nl w sv L.sts) (h2 : Nl w mv L.mks) : Calls Tryz.prog 29 #[.pointer (some ⟨y, 0, none⟩), lV L.n L.s L.ep sv mv, .int .i64 t] w fun e w' => ∃ v, e = .returned (.tuple #[v, .int .i64 (lsE L t)]) ∧ IntsAt w' w.heap.size v (ldG B L t) ∧ Kp w w' := by
  obtain ⟨m, cap, X, F, rfl, hx⟩ := h
  have hgd := hx.gd
  obtain ⟨N, hN⟩ : ∃ N, N = B.ms.length := ⟨_, rfl⟩
  have e0 := hx.c0
  have k1 := hx.k1
  have k2 := hx.k2
  have hn32 := hgd.n2
  rw [← hN] at e0 k1 hn32
  have HM : Hid (∀ i, i < N → w.cell? ⟨m, i, none⟩ = some (.pointer (some ⟨X.getD i 0, 0, none⟩)) ∧ w.cell? ⟨X.getD i 0, 2, none⟩ = some (.bool (dgF B i))) := fun i hi => by
    have hi2 : i < B.ms.length := by rw [← hN]; exact hi
    refine ⟨hx.ar i hi2, ?_⟩
    obtain ⟨P, _, ⟨gs, cg, wv, _, hri, _⟩, _⟩ := hx.atX i hi2
    exact hri.c2
  have HDD : Hid (ddL B = (Plain.fl N (dgF B)).map Int.ofNat) := by show _ = _; rw [hN]; exact dd_fl (by omega)
  obtain ⟨sa, sg, so, sc, rfl, na⟩ := h1
  obtain ⟨ma, mg, mo, mc, rfl, nb⟩ := h2
  have HN1 : Hid (Nl w (.slice sa L.sts.length sc) L.sts) := ⟨sa, sg, so, sc, rfl, na⟩
  have HN2 : Hid (Nl w (.slice ma L.mks.length mc) L.mks) := ⟨ma, mg, mo, mc, rfl, nb⟩
  obtain ⟨n1, hn1⟩ : ∃ n, n = L.sts.length := ⟨_, rfl⟩
  obtain ⟨n2, hn2⟩ : ∃ n, n = L.mks.length := ⟨_, rfl⟩
  rw [← hn1] at HN1 ⊢
  rw [← hn2] at HN2 ⊢
  have lc := Lc.new w L.n L.s L.ep (.slice sa n1 sc) (.slice ma n2 mc) 33
  clear hx na nb hn1 hn2 hN hgd
  have K0 : Kp w (w.alloc (.cells #[.int .i64 L.n, .int .i64 L.s, .int .i64 L.ep, .slice sa n1 sc, .slice ma n2 mc] 33)) := (Kp.refl w).alloc _
  obtain ⟨W, hW⟩ : ∃ W, W = w.alloc (.cells #[.int .i64 L.n, .int .i64 L.s, .int .i64 L.ep, .slice sa n1 sc, .slice ma n2 mc] 33) := ⟨_, rfl⟩
  rw [← hW] at lc K0
  obtain ⟨A0, hA0⟩ : ∃ A0, A0 = w.heap.size := ⟨_, rfl⟩
  rw [← hA0] at lc
  have HLc : Hid (∀ V, Kp W V → Lc V A0 L.n L.s L.ep (.slice sa n1 sc) (.slice ma n2 mc)) := fun V k => lc.kept k
  have HE0 : Hid (∀ V, Kp W V → V.cell? ⟨y, 0, none⟩ = some (.slice (some ⟨m, 0, none⟩) N cap)) := fun V k => (K0.trans k).held e0
  have HK0 := hid K0
  have HW := hid hW
  have HA0 := hid hA0
  clear lc K0 hW hA0 e0
  unfold lV
  go_enter Tryz.func29, Tryz.ntmps29
  go_wp2_with fail
  rw [← HW.out, ← HA0.out]
  go_loopw [8, 9] (fun v i wr => ∃ k : Nat, k ≤ N ∧ i = .int .i64 k ∧ Hid (OwnI wr W.heap.size v ((Plain.fl k (dgF B)).map Int.ofNat)) ∧ Hid (Kp W wr)) (fun _ i _ => N - (intOf i).toNat)
  case atStart => exact ⟨0, by omega, by go_num, World.ownsRow_nil _ _ _ _, Kp.refl W⟩
  case round =>
    obtain ⟨k, hk, rfl, HO, HK⟩ := hrel
    have c0 := HE0.out _ HK.out
    by_cases hlt : k < N
    · have c1 := (HK0.out.trans HK.out).held (HM.out k hlt).1
      have c2 := (HK0.out.trans HK.out).held (HM.out k hlt).2
      have hst := fl_step k (dgF B)
      have hlen := Plain.fl_le k (dgF B)
      obtain ⟨z, hz⟩ : ∃ z, z = X.getD k 0 := ⟨_, rfl⟩
      rw [← hz] at c1 c2
      clear hz
      have HLl := hid hlen
      cases hd : dgF B k with
      | true =>
        rw [hd] at c2 hst
        rw [if_pos rfl] at hst
        have HST := hid hst
        clear hst hlen hd
        go_wp2_with (at_builtin; refine wpList_append_int rfl _ _ rfl W.heap.size _ ((Plain.fl k (dgF B)).map Int.ofNat) rfl (HO.out.alloc _) (k : Int) _ rfl (by rw [World.cell?_alloc_at _ _ _ _ rfl]; rfl) (by rw [List.length_map]; have := HLl.out; omega) (by have := HK.out.size; simp; omega) ?_; intro u2 w4 ho2 hg2; have K4 : Hid (Kp W w4) := (HK.out.alloc _).grown hg2 (fun q hq => own_lt HO.out q hq); have HO4 : Hid (OwnI w4 W.heap.size u2 ((Plain.fl (k + 1) (dgF B)).map Int.ofNat)) := (by rw [HST.out]; exact ho2); clear ho2 hg2)
        clear HO HK c0 c1 c2
        go_roundw
        case rel => exact ⟨k + 1, by omega, by go_num, HO4, K4⟩
        case measure => simp [intOf]; omega
      | false =>
        rw [hd] at c2 hst
        rw [if_neg (by simp)] at hst
        have HO4 : Hid (OwnI wr W.heap.size u8 ((Plain.fl (k + 1) (dgF B)).map Int.ofNat)) := by show OwnI _ _ _ _; rw [hst]; exact HO.out
        clear hst hlen hd HO
        go_wp2
        go_roundw
        case rel => exact ⟨k + 1, by omega, by go_num, HO4, HK⟩
        case measure => simp [intOf]; omega
    · have hkN : k = N := by omega
      have HI : Hid (IntsIn wr u8 (ddL B)) := by
        have h1 := HO.out.ints.ints
        rw [hkN, ← HDD.out] at h1
        exact h1
      obtain ⟨l0, l1, l2, l3, l4⟩ := HLc.out _ HK.out
      have KW := HK0.out.trans HK.out
      have hLo := rlost16 L (.slice sa n1 sc) (.slice ma n2 mc) (ddL B) u8 t wr (HN1.out.kept KW) (HN2.out.kept KW) HI.out
      unfold lV at hLo
      have hsh : ∃ a c, u8 = .slice a ((Plain.fl k (dgF B)).map Int.ofNat).length c := by
        obtain ⟨a, g, cap, e, _⟩ := HO.out.ints
        exact ⟨a, cap, e⟩
      have HKW := hid KW
      have HWs : Hid (w.heap.size ≤ wr.heap.size) := KW.size
      have Hkn := hid hkN
      clear HO hkN KW
      go_wp2_with fail
      refine hLo.mono ?_; rintro e V ⟨v, rfl, hi, kV⟩
      have HF : Hid (IntsAt V w.heap.size v (loL L (ddL B) t) ∧ Kp w V) := ⟨hi.mono HWs.out, HKW.out.trans kV⟩
      clear hLo hi kV
      go_wp2
      go_ret2
      exact ⟨v, rfl, HF.out.1, HF.out.2⟩

end Go.Proofs.YtonooelffokfkaaGreatDoor
