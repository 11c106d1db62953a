/-
  The document's Load (layer 16). Conditions: that the bay and the label's lists lie in memory.
-/
import Derived.Test.YtonooelffokfkaaGreatDoorZRwRefR
import Derived.Test.YtonooelffokfkaaGreatDoorZSet
namespace Go.Proofs.YtonooelffokfkaaGreatDoor
open Go.RowKit Plain
set_option linter.unusedVariables false

theorem results_tmp4 {fn : Func} {t u v x : Tmp} (h : fn.results = #[.tmp t, .tmp u, .tmp v, .tmp x]) (tmps : Array Value) (P : Program) (w : World) :
    (results fn tmps).run P w = .ok (.tuple #[tmps.getD t undef, tmps.getD u undef, tmps.getD v undef, tmps.getD x undef]) w := by
  simp [results, h]
theorem con_isG (G : List Int) (c : Nat) (hc : c < 256) : G.contains (c : Int) = isG G c := by
  unfold isG hasB inL
  rw [decide_eq_true (by omega), Bool.true_and, Int.toNat_natCast]
  induction G with
  | nil => rfl
  | cons x l ih =>
    rw [List.contains_cons, List.any_cons, ih]
    congr 1
    by_cases e : x = (c : Int)
    · subst e; simp
    · rw [beq_eq_false_iff_ne.2 e, beq_eq_false_iff_ne.2 (fun hh => e hh.symm)]
theorem rk_snoc (B : BS) (n t : Int) (G : List Int) (k : Nat) : roK B n t G (k + 1) (k + 1) = roK B n t G k k ++ [roC B n t G (k + 1) k] := by
  unfold roK
  rw [List.range_succ, List.map_append]
  congr 1
  refine List.map_congr_left fun c hc => ?_
  have hk := List.mem_range.1 hc
  unfold roC
  by_cases h : isG G c = false
  · rw [if_pos ⟨by omega, h⟩, if_pos ⟨hk, h⟩]
  · rw [if_neg (fun hh => h hh.2), if_neg (fun hh => h hh.2)]
theorem ldG_facts (B : BS) (L : LB) (t : Int) (h : lsE L t = 0) : 4 ≤ L.n ∧ L.n ≤ 32 ∧ dst (ldG B L t) = ldG B L t ∧ inB (L.n - 2) (ldG B L t) = true ∧ (ldG B L t).length ≤ 32 := by
  obtain ⟨_, z2, _, _⟩ := ls_zero h
  obtain ⟨g1, g2, _, _⟩ := (gg_iff _ _).1 z2
  have e : ldG B L t = loN L (ddL B) t L.n.toNat := by unfold ldG loL; rw [if_pos h]
  rw [e]
  have hp : (loN L (ddL B) t L.n.toNat).Pairwise (fun x y => x < y) := by
    unfold loN
    refine List.Pairwise.map _ (fun a b hab => ?_) (List.Pairwise.filter _ (List.pairwise_lt_range (n := L.n.toNat)))
    show ((a : Nat) : Int) < ((b : Nat) : Int)
    omega
  refine ⟨g1, g2, rising_ext (dst_lt _) hp (dst_mem _), ?_, ?_⟩
  · unfold inB
    exact List.all_eq_true.2 fun x hx => decide_eq_true (by have := (loN_mem L (ddL B) t L.n.toNat x).1 hx; omega)
  · have := loN_len L (ddL B) t L.n.toNat
    omega

set_option maxRecDepth 100000 in
theorem membersN_any (L : LB) (sv mv : Value) (t : Int) (w : World) (h1 : Nl w sv L.sts) (h2 : Nl w mv L.mks) : Calls Tryz.prog 45 #[lV L.n L.s L.ep sv mv, .int .i64 t] w fun e w' => ∃ v, e = .returned (.tuple #[v, .int .i64 (lsE L t)]) ∧ InI w' v (lsL L t) ∧ (∀ k, v.ownBlock = some k → w.heap.size ≤ k) ∧ Kp w w' := by
  have hG := fun w' (k : Kp w w') => rlgood_any L sv mv w' (h1.kept k) (h2.kept k)
  have hR := fun w' => rrowN_any L.n L.s t w'
  have HY := @ls_yes L t
  have HN := @ls_no L t
  clear h1 h2
  obtain ⟨E, eE⟩ : ∃ E, E = lsE L t := ⟨_, rfl⟩
  obtain ⟨R, eR⟩ : ∃ R, R = lsL L t := ⟨_, rfl⟩
  rw [← eE, ← eR] at HY HN
  rw [← eE, ← eR]
  clear eE eR
  obtain ⟨n, s, ep, sts, mks⟩ := L
  simp only at *
  unfold lV at hG ⊢
  unfold gV at hR
  cases e1 : lg ⟨n, s, ep, sts, mks⟩ with
  | false =>
    rw [e1] at hG
    obtain ⟨rfl, rfl⟩ := HN e1
    clear hR HY HN e1
    go_enter Tryz.func45, Tryz.ntmps45
    go_wp2_with fail
    refine (hG _ ((Kp.refl w).alloc _)).mono ?_; rintro e w1 ⟨rfl, k1⟩
    have K1 : Kp w w1 := ((Kp.refl w).alloc _).trans k1
    clear hG k1
    go_wp2
    go_ret2
    exact ⟨_, rfl, InI.nil _, fun k hk => (by cases hk), K1⟩
  | true =>
    rw [e1] at hG
    obtain ⟨rfl, rfl⟩ := HY e1
    clear HY HN e1
    go_enter Tryz.func45, Tryz.ntmps45
    go_wp2_with fail
    refine (hG _ ((Kp.refl w).alloc _)).mono ?_; rintro e w1 ⟨rfl, k1⟩
    obtain ⟨c0, c1, c2, c3, c4⟩ := (Lc.new w n s ep sv mv 33).kept k1
    have K1 : Kp w w1 := ((Kp.refl w).alloc _).trans k1
    clear hG k1
    go_wp2_with fail
    refine (hR _).mono ?_; rintro e w2 ⟨v, rfl, i2, n2, k2⟩
    have N2 : ∀ k, v.ownBlock = some k → w.heap.size ≤ k := fun k hk => Nat.le_trans K1.size (n2 k hk)
    have K2 := K1.trans k2
    clear n2
    clear hR k2 K1 c0 c1 c2 c3 c4
    go_wp2
    go_ret2
    exact ⟨v, rfl, i2, N2, K2⟩

theorem IntsIn.of_sp {w w' : World} {B : Nat} {v : Value} {l : List Int} (h : IntsAt w B v l) {T : List Nat} (k : Sp T w w') (hT : ∀ t, t ∈ T → t < B) : IntsIn w' v l := (h.sp k hT).ints
theorem rdT_sizeD {w0 w : World} {y : Nat} {T : List Nat} {B : BS} (h : Dw w0 w y T B) (i k : Int) : (rdT B i k).size ≤ 64 := by
  obtain ⟨m, cap, X, F, _, h1⟩ := h
  unfold rdT
  split
  · rename_i hs
    have hf := (stE_ok hs).1
    obtain ⟨P, _, ⟨gs, cg, wv, _, hri, _⟩, _⟩ := h1.at hf
    unfold rdS
    split
    · rename_i hc
      obtain ⟨_, c2, c3⟩ := rc_ok hc
      have hlt : k.toNat < (bm B i).now.length := by rw [hri.fine.nn]; omega
      rw [hri.fine.bn _ (mem_of_at _ _ hlt)]
      exact Nat.le_refl _
    · simp
  · simp
theorem app_keep {w0 u2 V w4 : World} {y : Nat} {R R' : List Nat} {B' : BS} {v v' : Value} {o : Obj} (hD : Dw w0 V y R' B') (hS : Sp R u2 V) (hq : ∀ q, v.ownBlock = some q → q ∉ R' ∧ u2.heap.size ≤ q) (hg : (V.alloc o).grownBy w4 v.ownBlock) (hv : v'.ownBlock = v.ownBlock ∨ v'.ownBlock = some (V.alloc o).heap.size) : Dw w0 w4 y R' B' ∧ Sp R u2 w4 ∧ ∀ q, v'.ownBlock = some q → q ∉ R' := by
  have k1 : Kp V (V.alloc o) := (Kp.refl V).alloc o
  have hlow := OL.dw.low hD
  have hm : ∀ x, x ∈ v.ownBlock.toList → v.ownBlock = some x := fun x hx => by
    cases hb : v.ownBlock with
    | none => rw [hb] at hx; cases hx
    | some z => rw [hb] at hx; simp at hx; rw [hx]
  have sg : Sp v.ownBlock.toList (V.alloc o) w4 := Sp.grown hg
  refine ⟨OL.dw.sp (OL.dw.sp hD (k1.sp []) (fun _ _ h => by cases h)) sg (fun x hx hx2 => (hq x (hm x hx2)).1 hx), ?_, fun q e hm2 => ?_⟩
  · exact (hS.trans (k1.sp R)).then sg (fun x hx => .inr (hq x (hm x hx)).2)
  · rcases hv with hv | hv
    · exact (hq q (hv ▸ e)).1 hm2
    · rw [hv] at e
      have : (V.alloc o).heap.size = q := by simpa using e
      have := hlow q hm2
      have := k1.size
      omega
def NzM (w0 w w' : World) (y : Nat) (R : List Nat) (B : BS) (cv gv : Value) (l : List Int) : Prop := ∃ R', Dw w0 w' y R' B ∧ Sp R w w' ∧ Nw w R R' ∧ (∀ q, cv.ownBlock = some q → w.heap.size ≤ q ∧ q ∉ R') ∧ (0 < l.length → ∀ q, gv.ownBlock = some q → w.heap.size ≤ q ∧ q ∉ R')
theorem NzM.nz {w0 w w' : World} {y : Nat} {R : List Nat} {B : BS} {cv gv : Value} {l : List Int} (h : NzM w0 w w' y R B cv gv l) : Nz Dw w0 w w' y R B := by
  obtain ⟨R', a, b, c, _⟩ := h
  exact ⟨R', a, b, c⟩
theorem nzM_none {w0 w w' : World} {y : Nat} {R : List Nat} {B : BS} {gv : Value} {l : List Int} (h : Nz Dw w0 w w' y R B) (hl : l = []) : NzM w0 w w' y R B (.slice none 0 0) gv l := by
  obtain ⟨R', a, b, c⟩ := h
  exact ⟨R', a, b, c, (fun q hq => by cases hq), fun h0 => by rw [hl] at h0; cases h0⟩
theorem NzM.kp {w0 w w' w'' : World} {y : Nat} {R : List Nat} {B : BS} {cv gv : Value} {l : List Int} (h : NzM w0 w w' y R B cv gv l) (k : Kp w' w'') : NzM w0 w w'' y R B cv gv l := by
  obtain ⟨R', a, b, c, d, e⟩ := h
  exact ⟨R', OL.dw.sp a (k.sp []) (fun _ _ h => by cases h), b.trans (k.sp R), c, d, e⟩
set_option maxRecDepth 100000 in
set_option maxHeartbeats 8000000 in
theorem rloadN_any {w0 w : World} {y : Nat} {R : List Nat} {B : BS} (h : Dw w0 w y R B) (K : Kp w0 w) (L : LB) (sv mv : Value) (t : Int) (h1 : Nl w sv L.sts) (h2 : Nl w mv L.mks) : Calls Tryz.prog 25 #[.pointer (some ⟨y, 0, none⟩), lV L.n L.s L.ep sv mv, .int .i64 t] w fun e w' => ∃ cv gv B', e = .returned (.tuple #[cv, gv, .int .i64 (ldK B L t), .int .i64 (ldE B L t)]) ∧ StrsIn w' cv (ldC B L t) ∧ IntsAt w' w.heap.size gv (ldL B L t) ∧ Sm B B' ∧ NzM w0 w w' y R B' cv gv (ldL B L t) := by
  have hlow := OL.dw.low h
  obtain ⟨sa, sg, so, sc, rfl, na⟩ := h1
  obtain ⟨ma, mg, mo, mc, rfl, nb⟩ := h2
  have HN1 : Hid (Nl w (.slice sa L.sts.length sc) L.sts) := ⟨sa, sg, so, sc, rfl, na⟩
  have HN2 : Hid (Nl w (.slice ma L.mks.length mc) L.mks) := ⟨ma, mg, mo, mc, rfl, nb⟩
  obtain ⟨n1, hn1⟩ : ∃ n, n = L.sts.length := ⟨_, rfl⟩
  obtain ⟨n2, hn2⟩ : ∃ n, n = L.mks.length := ⟨_, rfl⟩
  rw [← hn1] at HN1 ⊢
  rw [← hn2] at HN2 ⊢
  have lc := Lc.new w L.n L.s L.ep (.slice sa n1 sc) (.slice ma n2 mc) 33
  have K0 : Kp w (w.alloc (.cells #[.int .i64 L.n, .int .i64 L.s, .int .i64 L.ep, .slice sa n1 sc, .slice ma n2 mc] 33)) := (Kp.refl w).alloc _
  obtain ⟨W, hW⟩ : ∃ W, W = w.alloc (.cells #[.int .i64 L.n, .int .i64 L.s, .int .i64 L.ep, .slice sa n1 sc, .slice ma n2 mc] 33) := ⟨_, rfl⟩
  rw [← hW] at lc K0
  obtain ⟨A0, hA0⟩ : ∃ A0, A0 = w.heap.size := ⟨_, rfl⟩
  rw [← hA0] at lc
  have hDW := OL.dw.sp h (K0.sp []) (fun _ _ h => by cases h)
  have hGo := rgone_any hDW L (.slice sa n1 sc) (.slice ma n2 mc) t (HN1.out.kept K0) (HN2.out.kept K0)
  unfold lV at hGo ⊢
  have HLc : Hid (∀ V, Kp W V → Lc V A0 L.n L.s L.ep (.slice sa n1 sc) (.slice ma n2 mc)) := fun V k => lc.kept k
  have HK0 := hid K0
  have HKK := hid K
  have HD := hid h
  have HW := hid hW
  have HA0 := hid hA0
  have HLow : Hid (∀ x, x ∈ R → x < w.heap.size) := hlow
  obtain ⟨l0, l1, l2, l3, l4⟩ := lc
  clear na nb hn1 hn2 hW hA0 K0 K h hDW hlow
  go_enter Tryz.func25, Tryz.ntmps25
  go_upto_region 1 with fail
  rw [← HW.out, ← HA0.out]
  go_wp2_with fail
  refine hGo.mono ?_; rintro e u1 ⟨gv, rfl, hG, k1⟩
  obtain ⟨G, eG⟩ : ∃ G, G = ldG B L t := ⟨_, rfl⟩
  rw [← eG] at hG
  have HG := hid hG
  have HEG := hid eG
  obtain ⟨ga, gc, hgv⟩ := hG.slice
  subst hgv
  obtain ⟨gl, hgl⟩ : ∃ gl, gl = G.length := ⟨_, rfl⟩
  rw [← hgl] at HG ⊢
  have Hgl := hid hgl
  have HK1 := hid k1
  clear hGo l0 l1 l2 l3 l4 hG k1 eG hgl
  by_cases hE : lsE L t = 0
  · obtain ⟨f4, f32, fd, fi, fl_⟩ := ldG_facts B L t hE
    obtain ⟨_, _, htr, hlsL⟩ := ls_zero hE
    rw [← HEG.out] at fd fi fl_
    rw [hE]
    by_cases h2 : gl ≤ 2
    · have hsr := (sr_ok (d := L.n - 2) (l := G) (by omega) (by omega) fi (by rw [fd, ← Hgl.out]; omega)).1
      have Hsr := hid hsr
      have HE := hid hE
      obtain ⟨N, hN⟩ : ∃ N : Nat, L.n = N := ⟨L.n.toNat, by omega⟩
      have hN32 : 4 ≤ N ∧ N ≤ 32 := by omega
      have hMe := membersN_any L (.slice sa n1 sc) (.slice ma n2 mc) t u1 (HN1.out.kept (HK0.out.trans HK1.out)) (HN2.out.kept (HK0.out.trans HK1.out))
      rw [hE] at hMe
      unfold lV at hMe
      obtain ⟨l0, l1, l2, l3, l4⟩ := HLc.out u1 HK1.out
      have h2i : ¬ (2 : Int) < (gl : Int) := by omega
      have HLs := hid hlsL
      have HN := hid hN
      have Hht := hid htr
      have Hfi := hid fi
      have Hfd := hid fd
      have hg32 : gl ≤ 32 := by rw [Hgl.out]; exact fl_
      have hgc : gc ≤ 9223372036854775807 := by
        have := HG.out.ints
        cases this with
        | empty a c h => unfold maxLen at h; omega
        | some b off c l h0 h1 h9 hc => unfold maxLen at h9; omega
      clear hE hlsL fi fd fl_ hN htr
      go_wp2_with fail
      refine hMe.mono ?_; rintro e u2 ⟨mw, rfl, iM, nM, k2⟩
      rw [HLs.out] at iM
      have hNn : (rowL L.n t).length = N := by rw [rowL_len, HN.out]; omega
      obtain ⟨xa, xg, xc, hmw, x1, x2, x3, x4⟩ := iM
      rw [hNn] at hmw x1 x3 x4
      subst hmw
      obtain rfl := x3 (by omega)
      have HMx : Hid (∀ c, c < N → u2.cell? ⟨xg, c, none⟩ = some (.int .i64 (mM L.n t c))) := fun c hc => by rw [x4 c hc, rowL_at _ _ _ (by rw [HN.out]; omega)]
      have hxg : u1.heap.size ≤ xg := nM xg rfl
      have HK2 := hid ((HK0.out.trans HK1.out).trans k2)
      have hxR : Hid (xg ∉ R) := fun hm => by have := HLow.out _ hm; have := (HK0.out.trans HK1.out).size; omega
      have HG2 := hid (HG.out.kept k2)
      have HDw2 : Hid (Dw w0 u2 y R B) := OL.dw.sp HD.out (HK2.out.sp []) (fun _ _ h => by cases h)
      have ht9 : 0 ≤ t ∧ t ≤ 1000 := by
        obtain ⟨_, z2, _, _⟩ := ls_zero HE.out
        obtain ⟨_, _, g3, g4⟩ := (gg_iff _ _).1 z2
        have := Hht.out
        omega
      have hadd : IntKind.i64.wrap (100 + t) = 100 + t := by rw [IntKind.wrap_i64]; omega
      have HWs : Hid (w.heap.size ≤ W.heap.size) := HK0.out.size
      clear hMe l0 l1 l2 l3 l4 x3 x4 nM k2 hxg hNn
      go_wp2_with fail
      go_loopw [14, 15] (fun v i wr => ∃ (k : Nat) (B' : BS) (R' : List Nat), k ≤ N ∧ i = .int .i64 k ∧ Hid (OR wr u2.heap.size 9 v (sv_ (roK B L.n t G k k))) ∧ Hid (Dw w0 wr y R' B') ∧ Hid (Sp R u2 wr ∧ Nw u2 R R') ∧ Hid (∀ q, v.ownBlock = some q → q ∉ R') ∧ Hid (Sm B B') ∧ Hid (roE B L.n t G k = 0)) (fun _ i _ => N - (intOf i).toNat)
      case atStart => exact ⟨0, B, R, by omega, by go_num, World.ownsRow_nil _ _ _ _, HDw2, ⟨Sp.refl _ _, Nw.refl _ _⟩, (fun q hq => by cases hq), Sm.refl B, rfl⟩
      case round =>
        obtain ⟨k, B', R', hk, rfl, HO, HDk, HSp, Hq, HSm, HRo⟩ := hrel
        by_cases hlt : k < N
        · have cM := HSp.out.1.held (HMx.out k hlt) hxR.out
          have hHas := rhas_any (.slice ga gl gc) G (k : Int) wr (IntsIn.of_sp HG2.out HSp.out.1 (fun x hx => by have := HLow.out x hx; have := HWs.out; omega))
          rw [con_isG G k (by omega)] at hHas
          go_wp2_with fail
          refine hHas.mono ?_; rintro e V ⟨rfl, rfl⟩
          clear hHas
          cases hg : isG G k with
          | true =>
            have hro1 : roE B L.n t G (k + 1) = 0 := by show (if _ then _ else _) = _; rw [if_pos HRo.out, if_pos hg]
            have Hsn : Hid (roK B L.n t G (k + 1) (k + 1) = roK B L.n t G k k ++ [noS]) := by show _ = _; rw [rk_snoc]; unfold roC; rw [if_neg (fun hh => by rw [hg] at hh; cases hh.2)]
            have Hro1 := hid hro1
            clear hro1 hg cM
            go_wp2_with (at_builtin; refine wpList_append_or2 rfl _ _ 67 9 (.string ByteArray.empty) 16 Tryz.underlying67 info_str rfl (by omega) rfl u2.heap.size _ (sv_ (roK B L.n t G k k)) rfl (HO.out.kp ((Kp.refl _).alloc _)) (.string noS) rfl _ rfl (by rw [World.cell?_alloc_at _ _ _ _ rfl]; rfl) (by have := roK_len B L.n t G k k; unfold sv_; rw [List.length_map]; omega) (by have := HSp.out.1.size; simp; omega) ?_; intro v4 w4 ho4 hg4 hv4; obtain ⟨d4, s4, q4⟩ := app_keep HDk.out HSp.out.1 (fun q hq => ⟨Hq.out q hq, (World.ownsRow.lt HO.out q hq).1⟩) hg4 hv4; have HO4 : Hid (OR w4 u2.heap.size 9 v4 (sv_ (roK B L.n t G (k + 1) (k + 1)))) := (by show OR _ _ _ _ _; rw [Hsn.out]; unfold sv_ at ho4 ⊢; rw [List.map_append]; exact ho4); have HD4 := hid d4; have HS4 := hid s4; have HQ4 := hid q4; clear ho4 hg4 hv4 d4 s4 q4)
            clear HO HDk Hq
            go_roundw
            case rel => exact ⟨k + 1, B', R', by omega, by go_num, HO4, HD4, ⟨HS4.out, HSp.out.2⟩, HQ4, HSm, Hro1⟩
            case measure => simp [intOf]; omega
          | false =>
            have hK' : Kp w0 V := Sp.kp (HKK.out.trans HK2.out) HSp.out.1 (OL.dw.new HD.out)
            have hRd := dw_read HDk.out hK' (mM L.n t k) (100 + t)
            rw [HSm.out.rdT, HSm.out.rdE] at hRd
            have hro1 : roE B L.n t G (k + 1) = rdE B (mM L.n t k) (100 + t) := by show (if _ then _ else _) = _; rw [if_pos HRo.out, if_neg (by rw [hg]; simp)]
            have Hsn : Hid (roK B L.n t G (k + 1) (k + 1) = roK B L.n t G k k ++ [rdT B (mM L.n t k) (100 + t)]) := by show _ = _; rw [rk_snoc]; unfold roC; rw [if_pos ⟨by omega, hg⟩]
            obtain ⟨E1, hE1⟩ : ∃ E, E = rdE B (mM L.n t k) (100 + t) := ⟨_, rfl⟩
            obtain ⟨X1, hX1⟩ : ∃ X, X = rdT B (mM L.n t k) (100 + t) := ⟨_, rfl⟩
            rw [← hE1] at hRd hro1
            rw [← hX1] at hRd Hsn
            have Hro1 := hid hro1
            have HSm2 := hid (HSm.out.trans (sm_read B' (mM L.n t k) (100 + t)))
            obtain ⟨B2, hB2⟩ : ∃ B2, B2 = rdB B' (mM L.n t k) (100 + t) := ⟨_, rfl⟩
            rw [← hB2] at hRd HSm2
            obtain ⟨mk, hmk⟩ : ∃ mk, mk = mM L.n t k := ⟨_, rfl⟩
            rw [← hmk] at hRd cM
            clear hE1 hX1 hro1 hg hK' hB2 hmk
            go_wp2_with fail
            refine hRd.mono ?_; rintro e V2 ⟨rfl, nz⟩
            obtain ⟨R2, p1, p2, p3⟩ := nz
            have HDk2 := hid p1
            have HSp2 : Hid (Sp R u2 V2 ∧ Nw u2 R R2) := ⟨HSp.out.1.then p2 HSp.out.2, HSp.out.2.trans p3 HSp.out.1.size⟩
            have HO2 : Hid (OR V2 u2.heap.size 9 u14 (sv_ (roK B L.n t G k k))) := p2.own HO.out (fun g hg => Hq.out g hg)
            have Hq2 : Hid (∀ q, u14.ownBlock = some q → q ∉ R2) := fun q hq hm => by
              rcases p3 q hm with h5 | h5
              · exact Hq.out q hq h5
              · have := (World.ownsRow.lt HO.out q hq).2; omega
            clear hRd p1 p2 p3 HO HDk HSp Hq cM
            by_cases hE0 : E1 = 0
            · subst hE0
              go_wp2_with (at_builtin; refine wpList_append_or2 rfl _ _ 67 9 (.string ByteArray.empty) 16 Tryz.underlying67 info_str rfl (by omega) rfl u2.heap.size _ (sv_ (roK B L.n t G k k)) rfl (HO2.out.kp ((Kp.refl _).alloc _)) (.string X1) rfl _ rfl (by rw [World.cell?_alloc_at _ _ _ _ rfl]; rfl) (by have := roK_len B L.n t G k k; unfold sv_; rw [List.length_map]; omega) (by have := HSp2.out.1.size; simp; omega) ?_; intro v4 w4 ho4 hg4 hv4; obtain ⟨d4, s4, q4⟩ := app_keep HDk2.out HSp2.out.1 (fun q hq => ⟨Hq2.out q hq, (World.ownsRow.lt HO2.out q hq).1⟩) hg4 hv4; have HO4 : Hid (OR w4 u2.heap.size 9 v4 (sv_ (roK B L.n t G (k + 1) (k + 1)))) := (by show OR _ _ _ _ _; rw [Hsn.out]; unfold sv_ at ho4 ⊢; rw [List.map_append]; exact ho4); have HD4 := hid d4; have HS4 := hid s4; have HQ4 := hid q4; clear ho4 hg4 hv4 d4 s4 q4)
              clear HO2 HDk2 Hq2
              go_roundw
              case rel => exact ⟨k + 1, B2, R2, by omega, by go_num, HO4, HD4, ⟨HS4.out, HSp2.out.2⟩, HQ4, HSm2, Hro1⟩
              case measure => simp [intOf]; omega
            · have h7 : roE B L.n t (ldG B L t) L.n.toNat = E1 := by
                rw [← HEG.out, roE_stop (k := k + 1) (by rw [Hro1.out]; exact hE0) L.n.toNat (by have := HN.out; omega)]
                exact Hro1.out
              have h5 : ldE B L t = E1 := by rw [ld_3 HE.out (by rw [← HEG.out]; exact Hsr.out) (by rw [h7]; exact hE0)]; exact h7
              have HF := hid (ld_no (B := B) (L := L) (t := t) (by rw [h5]; exact hE0))
              have HF5 := hid h5
              clear h5 h7
              go_wp2
              refine bodyPost_ret (results_tmp4 rfl _ _ _) rfl ?_
              refine ⟨.slice none 0 0, .slice none 0 0, B2, ?_, ?_, ?_, HSm2, ?_⟩
              · rw [HF.out.2.2.1, HF5.out]; rfl
              · rw [HF.out.1]; exact .empty none 0 (by unfold maxLen; omega)
              · rw [HF.out.2.1]; exact .empty none 0 (by unfold maxLen; omega)
              · exact nzM_none ⟨R2, HDk2, (HK2.out.sp R).trans HSp2.out.1, fun x hx => (HSp2.out.2 x hx).imp id (fun h => Nat.le_trans HK2.out.size h)⟩ HF.out.2.1
        · have hkN : k = N := by omega
          have hNt : L.n.toNat = N := by have := HN.out; omega
          have eR : roK B L.n t G k k = ldR B L t := by unfold ldR; rw [← HEG.out, hNt, hkN]
          have hSt : StrsIn wr u14 (ldR B L t) := by rw [← eR]; exact HO.out.strs
          have hGi : IntsIn wr (.slice ga gl gc) G := IntsIn.of_sp HG2.out HSp.out.1 (fun x hx => by have := HLow.out x hx; have := HWs.out; omega)
          have hGa : IntsAt wr w.heap.size (.slice ga gl gc) G := (HG2.out.sp HSp.out.1 (fun x hx => by have := HLow.out x hx; have := HWs.out; omega)).mono HWs.out
          have hsz : ∀ i, i < (ldR B L t).length → ((ldR B L t).getD i noS).size ≤ maxLen := fun i hi => by
            have hi2 : i < L.n.toNat := by unfold ldR at hi; rwa [roK_len] at hi
            unfold ldR
            rw [roK_at _ _ _ _ _ _ _ hi2]
            unfold roC maxLen
            split
            · have := rdT_sizeD HD.out (mM L.n t i) (100 + t); omega
            · show noS.size ≤ _; decide
          have hFx := rfixN_any wr u14 (.slice ga gl gc) (ldR B L t) G hSt hsz hGi (by rw [← Hgl.out]; omega)
          have hE4 := ld_4 HE.out (by rw [← HEG.out]; exact Hsr.out) (by rw [← HEG.out, hNt, ← hkN]; exact HRo.out)
          rw [← HEG.out] at hE4
          obtain ⟨E1, hE1⟩ : ∃ E, E = fxE (ldR B L t) G := ⟨_, rfl⟩
          rw [← hE1] at hFx hE4
          have HE4 := hid hE4
          have hsh : ∃ a c, u14 = .slice a k c := by
            obtain ⟨a, c, e, _⟩ := hSt.slice
            refine ⟨a, c, ?_⟩
            rw [e, ← eR, roK_len]
          obtain ⟨va, vcap, rfl⟩ := hsh
          have HGa := hid hGa
          have hwN : IntKind.i64.wrap ((N : Int) - 2) = (N : Int) - 2 := by rw [IntKind.wrap_i64]; omega
          have HkN := hid hkN
          have hkN2 : ¬ (k : Int) < (N : Int) := by omega
          clear HO HRo Hq hkN hNt eR hSt hGi hGa hsz hE4 hE1
          go_wp2_with fail
          refine hFx.mono ?_; rintro e V ⟨cv, rfl, hcv, kV, nV⟩
          have HNm : Hid (NzM w0 w V y R B' cv (.slice ga gl gc) G) := (show NzM w0 w wr y R B' cv (.slice ga gl gc) G from ⟨R', HDk.out, (HK2.out.sp R).trans HSp.out.1, (fun x hx => (HSp.out.2 x hx).imp id (fun h => Nat.le_trans HK2.out.size h)), (fun q hq => ⟨by have := nV q hq; have := HSp.out.1.size; have := HK2.out.size; omega, fun hm => by have := OL.dw.low HDk.out q hm; have := nV q hq; omega⟩), fun h0 q hq => ⟨Nat.le_trans HWs.out (HG2.out.far h0 q hq).1, fun hm => by
            rcases HSp.out.2 q hm with h | h
            · have := HLow.out q h; have := (HG2.out.far h0 q hq).1; have := HWs.out; omega
            · have := (HG2.out.far h0 q hq).2; omega⟩⟩).kp kV
          have HNz : Hid (Nz Dw w0 w V y R B') := Nz.kp OL.dw ⟨R', HDk.out, (HK2.out.sp R).trans HSp.out.1, fun x hx => (HSp.out.2 x hx).imp id (fun h => Nat.le_trans HK2.out.size h)⟩ kV
          have HGv := hid (HGa.out.kept kV)
          have Hcv := hid hcv
          clear hFx hcv kV nV HDk HSp HGa
          by_cases hE0 : E1 = 0
          · subst hE0
            have hSo := rsort_any ((N : Int) - 2) (.slice ga gl gc) G (by rw [← Hgl.out]; omega) V HGv.out.ints
            have HY := hid (ld_yes (B := B) (L := L) (t := t) HE4.out)
            go_wp2_with fail
            refine hSo.mono ?_; rintro e V3 ⟨rfl, k3⟩
            have HF : Hid (StrsIn V3 cv (fxL (ldR B L t) G) ∧ IntsAt V3 w.heap.size (.slice ga gl gc) G ∧ NzM w0 w V3 y R B' cv (.slice ga gl gc) G) := ⟨Hcv.out.kept k3, HGv.out.kept k3, HNm.out.kp k3⟩
            clear hSo k3
            go_wp2
            refine bodyPost_ret (results_tmp4 rfl _ _ _) rfl ?_
            refine ⟨cv, .slice ga gl gc, B', ?_, ?_, ?_, HSm, by rw [HY.out.2.1, ← HEG.out]; exact HF.out.2.2⟩
            · rw [HY.out.2.2.1, HE4.out, ← HEG.out, HN.out]; rfl
            · rw [HY.out.1, ← HEG.out]; exact HF.out.1
            · rw [HY.out.2.1, ← HEG.out]; exact HF.out.2.1
          · have HF := hid (ld_no (B := B) (L := L) (t := t) (by rw [HE4.out]; exact hE0))
            go_wp2
            refine bodyPost_ret (results_tmp4 rfl _ _ _) rfl ?_
            refine ⟨.slice none 0 0, .slice none 0 0, B', ?_, ?_, ?_, HSm, nzM_none HNz HF.out.2.1⟩
            · rw [HF.out.2.2.1, HE4.out]; rfl
            · rw [HF.out.1]; exact .empty none 0 (by unfold maxLen; omega)
            · rw [HF.out.2.1]; exact .empty none 0 (by unfold maxLen; omega)
    · have hsr := (sr_many (d := L.n - 2) (l := G) (by omega) (by omega) fi (by rw [fd, ← Hgl.out]; omega)).1
      have h5 : ldE B L t = 20 := by rw [ld_2 hE (by rw [← HEG.out, hsr]; decide), ← HEG.out]; exact hsr
      have h6 := ld_no (B := B) (L := L) (t := t) (by rw [h5]; decide)
      have HF := hid h6
      have HF5 := hid h5
      have h2i : (2 : Int) < (gl : Int) := by omega
      clear h5 h6 hsr fd fi fl_ hE htr hlsL
      go_wp2
      refine bodyPost_ret (results_tmp4 rfl _ _ _) rfl ?_
      refine ⟨.slice none 0 0, .slice none 0 0, B, ?_, ?_, ?_, Sm.refl B, ?_⟩
      · rw [HF.out.2.2.1, HF5.out]; rfl
      · rw [HF.out.1]; exact .empty none 0 (by unfold maxLen; omega)
      · rw [HF.out.2.1]; exact .empty none 0 (by unfold maxLen; omega)
      · exact nzM_none ((Nz.refl HD.out).kp OL.dw (HK0.out.trans HK1.out)) HF.out.2.1
  · have h5 := ld_1 (B := B) hE
    have h6 := ld_no (B := B) (L := L) (t := t) (by rw [h5]; exact hE)
    have HF := hid h6
    have HF5 := hid h5
    obtain ⟨E, eE⟩ : ∃ E, E = lsE L t := ⟨_, rfl⟩
    rw [← eE] at hE HF5 ⊢
    clear h5 h6 eE
    go_wp2
    refine bodyPost_ret (results_tmp4 rfl _ _ _) rfl ?_
    refine ⟨.slice none 0 0, .slice none 0 0, B, ?_, ?_, ?_, Sm.refl B, ?_⟩
    · rw [HF.out.2.2.1, HF5.out]; rfl
    · rw [HF.out.1]; exact .empty none 0 (by unfold maxLen; omega)
    · rw [HF.out.2.1]; exact .empty none 0 (by unfold maxLen; omega)
    · exact nzM_none ((Nz.refl HD.out).kp OL.dw (HK0.out.trans HK1.out)) HF.out.2.1

theorem rload_any {w0 w : World} {y : Nat} {R : List Nat} {B : BS} (h : Dw w0 w y R B) (K : Kp w0 w) (L : LB) (sv mv : Value) (t : Int) (h1 : Nl w sv L.sts) (h2 : Nl w mv L.mks) : Calls Tryz.prog 25 #[.pointer (some ⟨y, 0, none⟩), lV L.n L.s L.ep sv mv, .int .i64 t] w fun e w' => ∃ cv gv B', e = .returned (.tuple #[cv, gv, .int .i64 (ldK B L t), .int .i64 (ldE B L t)]) ∧ StrsIn w' cv (ldC B L t) ∧ IntsAt w' w.heap.size gv (ldL B L t) ∧ Sm B B' ∧ Nz Dw w0 w w' y R B' :=
  (rloadN_any h K L sv mv t h1 h2).mono fun e w' ⟨cv, gv, B', a1, a2, a3, a4, a5⟩ => ⟨cv, gv, B', a1, a2, a3, a4, a5.nz⟩

end Go.Proofs.YtonooelffokfkaaGreatDoor
