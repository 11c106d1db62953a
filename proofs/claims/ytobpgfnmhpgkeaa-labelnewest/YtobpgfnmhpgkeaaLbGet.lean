/-
  The contract of label's Get. No condition but the text's own kind.
-/
import Derived.Test.YtobpgfnmhpgkeaaLbParse
namespace Go.Proofs.Ytobpgfnmhpgkeaa
open Go.RowKit Plain
set_option linter.unusedVariables false

/-- what a sector's sum and number come to. -/
theorem sec_num (s : ByteArray) (h : s.size = 64) : nmN (bf (s.extract 46 50)) (s.extract 46 50).size = nmN (fun i => bf s (46 + i)) 4 := by
  rw [extract_size _ _ _ (by omega)]
  exact nmN_congr 4 (fun i hi => bAt_extract s 46 50 i (by omega) (by omega))
theorem sec_sum (s : ByteArray) (h : s.size = 64) : smN (bf (s.extract 0 46)) (s.extract 0 46).size = smN (bf s) 46 := by
  rw [extract_size _ _ _ (by omega)]
  unfold smN mrN
  rw [rgS_congr (g := bf s) _ _ (fun i hi => by
    have := bAt_extract s 0 46 i (by omega) (by omega)
    rw [Nat.zero_add] at this
    exact this)]
theorem wrap_byte2 (x : Nat) (h : x < 256) : IntKind.i64.wrap (x : Int) = (x : Int) := by rw [IntKind.wrap_i64]; omega
theorem wrap_u32 (x : Nat) (h : x < 4294967296) : IntKind.u64.wrap (x : Int) = (x : Int) := by rw [IntKind.wrap_u64]; omega
theorem Nl.shape {w : World} {v : Value} {l : List Int} (h : Nl w v l) : ∃ a n cap, v = .slice a n cap := by
  obtain ⟨a, g, off, cap, rfl, _⟩ := h
  exact ⟨a, _, cap, rfl⟩
/-- a list in memory of whose cells none lies below block b. -/
def Nn (b : Nat) (w : World) (v : Value) (l : List Int) : Prop := ∃ a g off cap, v = .slice a l.length cap ∧ Na w a g off cap l ∧ (0 < l.length → b ≤ g)
theorem Nn.nl {b : Nat} {w : World} {v : Value} {l : List Int} (h : Nn b w v l) : Nl w v l := by
  obtain ⟨a, g, off, cap, h1, h2, _⟩ := h
  exact ⟨a, g, off, cap, h1, h2⟩
theorem Nn.nil (b : Nat) (w : World) : Nn b w (.slice none 0 0) [] := ⟨none, 0, 0, 0, rfl, ⟨by simp, by omega, fun h => absurd h (by simp), fun j hj => absurd hj (by simp)⟩, fun h => absurd h (by simp)⟩
theorem Fe.nn {e : TypeId} {w : World} {base b : Nat} {v : Value} {n : Nat} {f : Nat → Int} (h : Fe e w base v n f) (hb : b ≤ base) : Nn b w v ((List.range n).map f) := by
  obtain ⟨a, cap, rfl, h1, h2, h3⟩ := h.shape
  by_cases h0 : 0 < n
  · obtain ⟨g, rfl, h4, _⟩ := h3 h0
    exact ⟨_, g, 0, cap, by simp, ⟨by simpa using h1, h2, fun _ => rfl, fun j hj => by
      have hj2 : j < n := by simpa using hj
      rw [Nat.zero_add, h.at j hj2]; simp [List.getD_eq_getElem?_getD, hj2]⟩, fun _ => by omega⟩
  · obtain rfl : n = 0 := by omega
    exact ⟨a, 0, 0, cap, rfl, ⟨by simp, h2, fun h => absurd h (by simp), fun j hj => absurd hj (by simp)⟩, fun h => absurd h (by simp)⟩
theorem Nn.kept {b : Nat} {w w' : World} {v : Value} {l : List Int} (h : Nn b w v l) (k : Kp w w') : Nn b w' v l := by
  obtain ⟨a, g, off, cap, h1, h2, h3⟩ := h
  exact ⟨a, g, off, cap, h1, h2.kept k, h3⟩
/-- a store into a block below b leaves it. -/
theorem Nn.trd {b X : Nat} {w w' : World} {v : Value} {l : List Int} (h : Nn b w v l) (t : Trd X w w') (hX : X < b) : Nn b w' v l := by
  obtain ⟨a, g, off, cap, h1, h2, h3⟩ := h
  refine ⟨a, g, off, cap, h1, ⟨h2.le, h2.mx, h2.ha, fun j hj => t.held ?_ (h2.c j hj)⟩, h3⟩
  have := h3 (by omega)
  omega
theorem noL_is : noL.n = 0 ∧ noL.s = 0 ∧ noL.ep = 0 ∧ noL.sts = [] ∧ noL.mks = [] := ⟨rfl, rfl, rfl, rfl, rfl⟩
/-- a label that was refused. -/
theorem refused {s : ByteArray} {e : Int} (h : gtE s = e) (he : e ≠ 0) (w' : World) : Value.tuple #[lV 0 0 0 (.slice none 0 0) (.slice none 0 0), .int .i64 e] = Value.tuple #[lV (gtL s).n (gtL s).s (gtL s).ep (.slice none 0 0) (.slice none 0 0), .int .i64 (gtE s)] ∧ (∀ b, Nn b w' (.slice none 0 0) (gtL s).sts) ∧ ∀ b, Nn b w' (.slice none 0 0) (gtL s).mks := by
  rw [gtL_no (by rw [h]; exact he), h]
  exact ⟨rfl, fun b => Nn.nil b _, fun b => Nn.nil b _⟩
theorem Lc.frz {w w' : World} {b : Nat} (k : Kp w w') (hb : b < w.heap.size) (z : ∀ o, w.frozen? ⟨b, o, none⟩ = false) : ∀ o, w'.frozen? ⟨b, o, none⟩ = false := fun o => (Below.frozen (p := ⟨b, o, none⟩) k hb).trans (z o)
set_option maxRecDepth 100000 in
set_option maxHeartbeats 4000000 in
theorem get_new (s : ByteArray) (hs : s.size ≤ 9223372036854775807) (w : World) : Calls Try.prog 18 #[.string s] w fun e w' => ∃ sv mv, e = .returned (.tuple #[lV (gtL s).n (gtL s).s (gtL s).ep sv mv, .int .i64 (gtE s)]) ∧ Nn w.heap.size w' sv (gtL s).sts ∧ Nn w.heap.size w' mv (gtL s).mks ∧ Kp w w' := by
  by_cases h64 : s.size = 64
  case neg =>
    have HE : Hid (gtE s = 4) := gtE_form (fun h => h64 h.1)
    have hb : ((s.size : Int) != 64) = true := by simp; omega
    clear h64
    go_enter Try.func18, Try.ntmps18
    go_wp2
    obtain ⟨r1, r2, r3⟩ := refused (s := s) (e := 4) HE.out (by omega) (w.alloc (.cells #[.int .i64 0, .int .i64 0, .int .i64 0, .slice none 0 0, .slice none 0 0] 29))
    refine bodyPost_ret (results_lb2 rfl _ _ w.heap.size rfl rfl (Lc.new w 0 0 0 (.slice none 0 0) (.slice none 0 0) 29)) rfl ?_
    exact ⟨_, _, congrArg Ending.returned r1, r2 _, r3 _, (Kp.refl w).alloc _⟩
  have hP := fun w' => prefix_any s h64 w'
  have hb : ((s.size : Int) != 64) = false := by simp [h64]
  have hl0 := Lc.new w 0 0 0 (.slice none 0 0) (.slice none 0 0) 29
  obtain ⟨W, hW⟩ : ∃ W, W = w.alloc (.cells #[.int .i64 0, .int .i64 0, .int .i64 0, .slice none 0 0, .slice none 0 0] 29) := ⟨_, rfl⟩
  have HW : Hid (W = w.alloc (.cells #[.int .i64 0, .int .i64 0, .int .i64 0, .slice none 0 0, .slice none 0 0] 29)) := hW
  have hz0 : ∀ o, W.frozen? ⟨w.heap.size, o, none⟩ = false := by rw [hW]; intro o; simp
  have K0 : Kp w W := by rw [hW]; exact (Kp.refl w).alloc _
  rw [← hW] at hl0
  have hlt0 : w.heap.size < W.heap.size := World.block_lt_of_cell? _ _ hl0.c0
  have HL0 : Hid (∀ V, Kp W V → Lc V w.heap.size 0 0 0 (.slice none 0 0) (.slice none 0 0) ∧ (∀ o, V.frozen? ⟨w.heap.size, o, none⟩ = false) ∧ Kp w V) := fun V k => ⟨hl0.kept k, Lc.frz k hlt0 hz0, K0.trans k⟩
  clear hW hl0 hz0 K0
  by_cases hp : s.extract 0 4 = pfx
  case neg =>
    have HE : Hid (gtE s = 4) := gtE_form (fun h => hp h.2)
    rw [decide_eq_false hp] at hP
    clear hp
    go_enter Try.func18, Try.ntmps18
    go_wp2_with fail
    rw [← HW.out]
    refine (hP _).mono ?_; rintro e w1 ⟨rfl, e1⟩
    rw [e1]
    clear e1 w1
    obtain ⟨⟨c0, c1, c2, c3, c4⟩, z, k⟩ := HL0.out W (Kp.refl W)
    clear hP HW
    go_wp2
    obtain ⟨r1, r2, r3⟩ := refused (s := s) (e := 4) HE.out (by omega) (over W w.heap.size 0 0 0 (.slice none 0 0) (.slice none 0 0))
    refine bodyPost_ret (results_lb2 rfl _ _ w.heap.size rfl rfl (Lc.over ⟨c0, c1, c2, c3, c4⟩)) rfl ?_
    exact ⟨_, _, congrArg Ending.returned r1, r2 _, r3 _, ((Trd.refl _ W).over _ _ _ _ _).kp w k (Nat.le_refl _)⟩
  have HP : Hid (s.extract 0 4 = pfx) := hp
  rw [decide_eq_true hp] at hP
  have hLd := fun w' => load8_any (s.extract 46 50) (by rw [extract_size _ _ _ (by omega)]; omega) w'
  have hSl := fun w' => slow_any (s.extract 0 46) (by rw [extract_size _ _ _ (by omega)]; omega) w'
  rw [sec_num s h64] at hLd
  rw [sec_sum s h64] at hSl
  have HSE : Hid (smE s ↔ nmN (fun i => bf s (46 + i)) 4 = smN (bf s) 46) := Iff.rfl
  have hlS := smN_lt (bf s) (bf_lt s) 46
  obtain ⟨NS, hNS⟩ : ∃ N, N = nmN (fun i => bf s (46 + i)) 4 := ⟨_, rfl⟩
  obtain ⟨SM, hSM⟩ : ∃ S, S = smN (bf s) 46 := ⟨_, rfl⟩
  rw [← hNS] at hLd HSE
  rw [← hSM] at hSl HSE hlS
  clear hNS hSM hp
  have hcv := wrap_u32 SM hlS
  have H64 : Hid (s.size = 64) := h64
  by_cases hsm : NS = SM
  case neg =>
    have HE : Hid (gtE s = 6) := gtE_sum H64.out HP.out (fun h => hsm (HSE.out.1 h))
    have hbs : ((NS : Int) != (SM : Int)) = true := by simp; omega
    clear hsm
    go_enter Try.func18, Try.ntmps18
    go_wp2_with fail
    rw [← HW.out]
    refine (hP _).mono ?_; rintro e w1 ⟨rfl, e1⟩
    rw [e1]
    clear e1 w1
    clear hP HW
    go_wp2_with fail
    refine wp_region_kp (by kernel_rfl) (by kernel_rfl) ?_
    repeat (first
      | go_big_quiet_skip
      | (go_big_quiet_want; go_big_quiet_op; go_big_quiet_on)
      | (go_big_quiet_want; go_big_quiet_op; apply Exists.intro; refine ⟨fun p => ?_, ?_⟩; (focus
          first
          | (go_at_call 35; exact kp_same (hLd _))
          | (go_at_call 28; exact kp_same (hSl _))); go_big_quiet_on))
    refine wpQuiet_nil ?_
    rintro w1 ⟨p, rfl⟩
    obtain ⟨⟨c0, c1, c2, c3, c4⟩, z, k⟩ := HL0.out _ (kpw_kp W p)
    clear hLd hSl
    go_wp2
    obtain ⟨r1, r2, r3⟩ := refused (s := s) (e := 6) HE.out (by omega) (over (kpw W p) w.heap.size 0 0 0 (.slice none 0 0) (.slice none 0 0))
    refine bodyPost_ret (results_lb2 rfl _ _ w.heap.size rfl rfl (Lc.over ⟨c0, c1, c2, c3, c4⟩)) rfl ?_
    exact ⟨_, _, congrArg Ending.returned r1, r2 _, r3 _, ((Trd.refl _ _).over _ _ _ _ _).kp w k (Nat.le_refl _)⟩
  have HSum : Hid (smE s) := HSE.out.2 hsm
  have hbs : ((NS : Int) != (SM : Int)) = false := by simp [hsm]
  clear hsm HSE
  have hi12 : 12 < s.size := by omega
  have hi13 : 13 < s.size := by omega
  have HB12 : Hid ((s[12]'hi12).toNat = bf s 12) := bf_at s 12 hi12
  have HB13 : Hid ((s[13]'hi13).toNat = bf s 13) := bf_at s 13 hi13
  have hx12 := bf_lt s 12
  have hx13 := bf_lt s 13
  have HPR : Hid (prs s = ⟨(bf s 12 : Nat), (bf s 13 : Nat), epN s, stL2 s (bf s 12), mkL2 s (bf s 12)⟩) := rfl
  obtain ⟨N, hN⟩ : ∃ N, N = bf s 12 := ⟨_, rfl⟩
  obtain ⟨S, hS⟩ : ∃ S, S = bf s 13 := ⟨_, rfl⟩
  rw [← hN] at HB12 hx12 HPR
  rw [← hS] at HB13 hx13 HPR
  have hw12 : wrap64 (((s[12]'hi12).toNat : Nat) : Int) = (N : Int) := by rw [HB12.out]; exact wrap_byte N hx12
  have hw13 : wrap64 (((s[13]'hi13).toNat : Nat) : Int) = (S : Int) := by rw [HB13.out]; exact wrap_byte S hx13
  have hv12 : IntKind.i64.wrap (((s[12]'hi12).toNat : Nat) : Int) = (N : Int) := by rw [HB12.out]; exact wrap_byte2 N hx12
  have hv13 : IntKind.i64.wrap (((s[13]'hi13).toNat : Nat) : Int) = (S : Int) := by rw [HB13.out]; exact wrap_byte2 S hx13
  clear hN hS
  have hG := good_any N S
  go_enter Try.func18, Try.ntmps18
  go_wp2_with fail
  rw [← HW.out]
  refine (hP _).mono ?_; rintro e w1 ⟨rfl, e1⟩
  rw [e1]
  clear e1 w1
  clear hP HW
  go_wp2_with fail
  refine wp_region_kp (by kernel_rfl) (by kernel_rfl) ?_
  repeat (first
    | go_big_quiet_skip
    | (go_big_quiet_want; go_big_quiet_op; go_big_quiet_on)
    | (go_big_quiet_want; go_big_quiet_op; apply Exists.intro; refine ⟨fun p => ?_, ?_⟩; (focus
        first
        | (go_at_call 35; exact kp_same (hLd _))
        | (go_at_call 28; exact kp_same (hSl _))); go_big_quiet_on))
  refine wpQuiet_nil ?_
  rintro w1 ⟨p, rfl⟩
  have HK2 := kpw_kp W p
  obtain ⟨w2, hw2⟩ : ∃ w2, w2 = kpw W p := ⟨_, rfl⟩
  rw [← hw2] at HK2 ⊢
  have K2 : Hid (Kp W w2) := HK2
  clear hLd hSl HK2 hw2 hcv
  go_wp2_with fail
  go_cut [4] (fun p wx => ∃ b, p = .pointer (some ⟨b, 0, none⟩) ∧ wx.cell? ⟨b, 0, none⟩ = some (.int .i64 (N : Int)) ∧ wx.cell? ⟨b, 1, none⟩ = some (.int .i64 (S : Int)) ∧ Hid (Kp W wx))
  case first =>
    go_region
    all_goals (go_wp2_with fail; go_meet)
    all_goals exact ⟨_, rfl, by rw [World.cell?_drew, World.cell?_alloc_at _ _ _ _ rfl]; rfl, by rw [World.cell?_drew, World.cell?_alloc_at _ _ _ _ rfl]; rfl, (K2.out.alloc _).drew⟩
  obtain ⟨b, rfl, q0, q1, K3⟩ := hcut
  obtain ⟨w3, hw3⟩ : ∃ w3, w3 = wc := ⟨_, rfl⟩
  rw [← hw3] at q0 q1 K3 ⊢
  clear hw3 K2 hw12 hw13 hv12 hv13 hb hbs
  have hGw := hG w3
  have HPN : Hid (lg (prs s) = true → gg N S = true) := fun h => by
    have := ((lg_iff _).1 h).1
    rw [HPR.out] at this
    exact this
  clear hG
  cases e1 : gg (N : Int) (S : Int) with
  | false =>
    have HE : Hid (gtE s = 4) := gtE_not H64.out HP.out HSum.out (fun h => by have := HPN.out h.1; rw [e1] at this; cases this)
    rw [e1] at hGw
    clear e1 HPN
    unfold gV at hGw
    go_wp2_with fail
    refine hGw.mono ?_; rintro e w4 ⟨rfl, k4⟩
    have K4 : Hid (Kp W w4) := K3.out.trans k4
    obtain ⟨⟨c0, c1, c2, c3, c4⟩, z, k⟩ := HL0.out _ K4.out
    clear hGw k4 q0 q1
    go_wp2
    obtain ⟨r1, r2, r3⟩ := refused (s := s) (e := 4) HE.out (by omega) (over w4 w.heap.size 0 0 0 (.slice none 0 0) (.slice none 0 0))
    refine bodyPost_ret (results_lb2 rfl _ _ w.heap.size rfl rfl (Lc.over ⟨c0, c1, c2, c3, c4⟩)) rfl ?_
    exact ⟨_, _, congrArg Ending.returned r1, r2 _, r3 _, ((Trd.refl _ _).over _ _ _ _ _).kp w k (Nat.le_refl _)⟩
  | true =>
    obtain ⟨g1, g2, g3, g4⟩ := (gg_iff _ _).1 e1
    rw [e1] at hGw
    clear e1 HPN
    unfold gV at hGw
    have hPa := fun w' => parse_any N S s H64.out (by omega) w'
    unfold gV at hPa
    go_wp2_with fail
    refine hGw.mono ?_; rintro e w4 ⟨rfl, k4⟩
    have K4 : Hid (Kp W w4) := K3.out.trans k4
    have r0 := k4.held q0
    have r1 := k4.held q1
    clear hGw k4 q0 q1 K3
    go_wp2_with fail
    refine (hPa _).mono ?_; rintro e w5 ⟨sv0, mv0, rfl, f1, f2, k5⟩
    have n1 : Nl w5 sv0 (stL2 s N) := f1.nums
    have n2 : Nl w5 mv0 (mkL2 s N) := f2.nums
    obtain ⟨a1, m1, p1, rfl⟩ := n1.shape
    obtain ⟨a2, m2, p2, rfl⟩ := n2.shape
    have K5 : Hid (Kp W w5) := K4.out.trans k5
    have hPu := fun w' (k : Kp w5 w') => put_any ⟨(N : Int), (S : Int), epN s, stL2 s N, mkL2 s N⟩ (.slice a1 m1 p1) (.slice a2 m2 p2) w' (n1.kept k) (n2.kept k)
    have HN1 : Hid (∀ w', Kp w5 w' → Nl w' (.slice a1 m1 p1) (stL2 s N) ∧ Nl w' (.slice a2 m2 p2) (mkL2 s N)) := fun w' k => ⟨n1.kept k, n2.kept k⟩
    have HOK : Hid (okS s ↔ lg ⟨(N : Int), (S : Int), epN s, stL2 s N, mkL2 s N⟩ = true ∧ ptS ⟨(N : Int), (S : Int), epN s, stL2 s N, mkL2 s N⟩ = s) := by
      show _ ↔ _
      unfold okS
      rw [HPR.out]
    have hw4 : w.heap.size < w4.heap.size := by
      obtain ⟨⟨c0, _, _, _, _⟩, _, _⟩ := HL0.out _ K4.out
      exact World.block_lt_of_cell? _ _ c0
    have HF1 : Hid (Fe 67 w5 w4.heap.size (.slice a1 m1 p1) N (fun i => ((bf s (14 + i) / 64 : Nat) : Int)) ∧ Fe 3 w5 w4.heap.size (.slice a2 m2 p2) N (fun i => ((bf s (14 + i) % 64 : Nat) : Int))) := ⟨f1, f2⟩
    have HW4 : Hid (w.heap.size < w4.heap.size) := hw4
    clear hPa n1 n2 k5 K4 r0 r1 f1 f2 hw4
    simp only at hPu
    unfold lV at hPu ⊢
    cases e2 : lg ⟨(N : Int), (S : Int), epN s, stL2 s N, mkL2 s N⟩ with
    | false =>
      have HE : Hid (gtE s = 4) := gtE_not H64.out HP.out HSum.out (fun h => by have := (HOK.out.1 h).1; rw [e2] at this; cases this)
      have hpe : puE ⟨(N : Int), (S : Int), epN s, stL2 s N, mkL2 s N⟩ = 4 := if_neg (by rw [e2]; simp)
      rw [hpe] at hPu
      obtain ⟨PS, hPS⟩ : ∃ PS, PS = puS ⟨(N : Int), (S : Int), epN s, stL2 s N, mkL2 s N⟩ := ⟨_, rfl⟩
      rw [← hPS] at hPu
      clear hPS hpe e2 HOK
      go_wp2_with fail
      refine (hPu _ ((Kp.refl w5).alloc _)).mono ?_; rintro e w6 ⟨rfl, k6⟩
      have K6 : Hid (Kp W w6) := (K5.out.alloc _).trans k6
      obtain ⟨⟨c0, c1, c2, c3, c4⟩, z, k⟩ := HL0.out _ K6.out
      clear hPu k6
      go_wp2
      obtain ⟨r1, r2, r3⟩ := refused (s := s) (e := 4) HE.out (by omega) (over w6 w.heap.size 0 0 0 (.slice none 0 0) (.slice none 0 0))
      refine bodyPost_ret (results_lb2 rfl _ _ w.heap.size rfl rfl (Lc.over ⟨c0, c1, c2, c3, c4⟩)) rfl ?_
      exact ⟨_, _, congrArg Ending.returned r1, r2 _, r3 _, ((Trd.refl _ _).over _ _ _ _ _).kp w k (Nat.le_refl _)⟩
    | true =>
      have hpe : puE ⟨(N : Int), (S : Int), epN s, stL2 s N, mkL2 s N⟩ = 0 := if_pos e2
      have hps : puS ⟨(N : Int), (S : Int), epN s, stL2 s N, mkL2 s N⟩ = ptS ⟨(N : Int), (S : Int), epN s, stL2 s N, mkL2 s N⟩ := if_pos e2
      rw [hpe, hps] at hPu
      have HLG : Hid (lg ⟨(N : Int), (S : Int), epN s, stL2 s N, mkL2 s N⟩ = true) := e2
      obtain ⟨PS, hPS⟩ : ∃ PS, PS = ptS ⟨(N : Int), (S : Int), epN s, stL2 s N, mkL2 s N⟩ := ⟨_, rfl⟩
      rw [← hPS] at hPu HOK
      clear hPS hpe hps e2
      have hcmp := lst_eq PS s
      by_cases hq : PS = s
      case neg =>
        have HE : Hid (gtE s = 4) := gtE_not H64.out HP.out HSum.out (fun h => hq (HOK.out.1 h).2)
        rw [decide_eq_false hq] at hcmp
        clear hq HOK
        go_wp2_with fail
        refine (hPu _ ((Kp.refl w5).alloc _)).mono ?_; rintro e w6 ⟨rfl, k6⟩
        have K6 : Hid (Kp W w6) := (K5.out.alloc _).trans k6
        obtain ⟨⟨c0, c1, c2, c3, c4⟩, z, k⟩ := HL0.out _ K6.out
        clear hPu k6
        go_wp2
        obtain ⟨r1, r2, r3⟩ := refused (s := s) (e := 4) HE.out (by omega) (over w6 w.heap.size 0 0 0 (.slice none 0 0) (.slice none 0 0))
        refine bodyPost_ret (results_lb2 rfl _ _ w.heap.size rfl rfl (Lc.over ⟨c0, c1, c2, c3, c4⟩)) rfl ?_
        exact ⟨_, _, congrArg Ending.returned r1, r2 _, r3 _, ((Trd.refl _ _).over _ _ _ _ _).kp w k (Nat.le_refl _)⟩
      rw [decide_eq_true hq] at hcmp
      have hE0 : gtE s = 0 := gtE_ok H64.out HP.out HSum.out (HOK.out.2 ⟨HLG.out, hq⟩)
      have HE : Hid (gtE s = 0) := hE0
      have HGL : Hid (gtL s = ⟨(N : Int), (S : Int), epN s, stL2 s N, mkL2 s N⟩) := by show gtL s = _; rw [gtL_ok hE0, HPR.out]
      clear hq HOK hE0
      obtain ⟨w5b, hw5b⟩ : ∃ v, v = w5.alloc (.cells #[.int .i64 (N : Int), .int .i64 (S : Int), .int .i64 (epN s), .slice a1 m1 p1, .slice a2 m2 p2] 29) := ⟨_, rfl⟩
      have HW5 : Hid (w5b = w5.alloc (.cells #[.int .i64 (N : Int), .int .i64 (S : Int), .int .i64 (epN s), .slice a1 m1 p1, .slice a2 m2 p2] 29)) := hw5b
      have hl5 := Lc.new w5 N S (epN s) (.slice a1 m1 p1) (.slice a2 m2 p2) 29
      have k5b : Kp w5 w5b := by rw [hw5b]; exact (Kp.refl w5).alloc _
      rw [← hw5b] at hl5
      obtain ⟨B, hB⟩ : ∃ B, B = w5.heap.size := ⟨_, rfl⟩
      rw [← hB] at hl5
      have hB2 := hB.symm
      have hneB : w.heap.size < w5.heap.size := by
        obtain ⟨⟨c0, _, _, _, _⟩, _, _⟩ := HL0.out _ K5.out
        exact World.block_lt_of_cell? _ _ c0
      rw [← hB] at hneB
      clear hw5b hB
      go_wp2_with fail
      rw [← HW5.out]
      refine (hPu _ k5b).mono ?_; rintro e w6 ⟨rfl, k6⟩
      have K6 : Hid (Kp W w6) := (K5.out.trans k5b).trans k6
      have HN6 : Hid (Fe 67 w6 w4.heap.size (.slice a1 m1 p1) N (fun i => ((bf s (14 + i) / 64 : Nat) : Int)) ∧ Fe 3 w6 w4.heap.size (.slice a2 m2 p2) N (fun i => ((bf s (14 + i) % 64 : Nat) : Int))) := ⟨HF1.out.1.kept (k5b.trans k6), HF1.out.2.kept (k5b.trans k6)⟩
      obtain ⟨d0, d1, d2, d3, d4⟩ := hl5.kept k6
      obtain ⟨⟨c0, c1, c2, c3, c4⟩, z, k⟩ := HL0.out _ K6.out
      have HK : Hid (Kp w w6) := k
      clear hPu k6 HW5 hl5 k5b hB2 HN1 k
      go_wp2
      have t2 := (Trd.refl w.heap.size w6).over N S (epN s) (.slice a1 m1 p1) (.slice a2 m2 p2)
      have lo : ∀ {e : TypeId} {v : Value} {f : Nat → Int}, Fe e w6 w4.heap.size v N f → v.ownBlock ≠ some w.heap.size := fun {e v f} h h' => by
        have h1 := (World.ownsRow.lt h _ h').1
        have h2 := HW4.out
        omega
      have n1 : Nn w.heap.size _ _ (stL2 s N) := (t2.fe HN6.out.1 (lo HN6.out.1)).nn (by have := HW4.out; omega)
      have n2 : Nn w.heap.size _ _ (mkL2 s N) := (t2.fe HN6.out.2 (lo HN6.out.2)).nn (by have := HW4.out; omega)
      refine bodyPost_ret (results_lb2 rfl _ _ w.heap.size rfl rfl (Lc.over (n2 := N) (s2 := S) (ep2 := epN s) (sv2 := .slice a1 m1 p1) (mv2 := .slice a2 m2 p2) ⟨c0, c1, c2, c3, c4⟩)) rfl ?_
      rw [HGL.out, HE.out]
      exact ⟨_, _, rfl, n1, n2, t2.kp w HK.out (Nat.le_refl _)⟩
theorem get_any (s : ByteArray) (hs : s.size ≤ 9223372036854775807) (w : World) : Calls Try.prog 18 #[.string s] w fun e w' => ∃ sv mv, e = .returned (.tuple #[lV (gtL s).n (gtL s).s (gtL s).ep sv mv, .int .i64 (gtE s)]) ∧ Nl w' sv (gtL s).sts ∧ Nl w' mv (gtL s).mks ∧ Kp w w' :=
  (get_new s hs w).mono fun _ _ ⟨sv, mv, h1, h2, h3, h4⟩ => ⟨sv, mv, h1, h2.nl, h3.nl, h4⟩

end Go.Proofs.Ytobpgfnmhpgkeaa
