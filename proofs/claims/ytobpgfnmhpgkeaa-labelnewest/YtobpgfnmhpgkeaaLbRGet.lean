/-
  The contract of the document's Get. No condition but the text's own kind.
-/
import Derived.Test.YtobpgfnmhpgkeaaLbGet
import Derived.Test.YtobpgfnmhpgkeaaLbRPut
import Derived.Test.YtobpgfnmhpgkeaaLbRow2
namespace Go.Proofs.Ytobpgfnmhpgkeaa
open Go.RowKit Plain
set_option linter.unusedVariables false

theorem Oi.nn {e : TypeId} {w : World} {base b : Nat} {v : Value} {l : List Int} (h : Oi e w base v l) (hb : b ≤ base) : Nn b w v l := by
  have h1 := h.fe.nn hb
  rwa [list_of l l.length (fun i => l.getD i 0) rfl (fun i _ => rfl)] at h1
theorem stL2_step (t : ByteArray) (k : Nat) : stL2 t (k + 1) = stL2 t k ++ [((bf t (14 + k) / 64 : Nat) : Int)] := by unfold stL2; rw [List.range_succ, List.map_append]; rfl
theorem mkL2_step (t : ByteArray) (k : Nat) : mkL2 t (k + 1) = mkL2 t k ++ [((bf t (14 + k) % 64 : Nat) : Int)] := by unfold mkL2; rw [List.range_succ, List.map_append]; rfl
theorem stL2_len (t : ByteArray) (k : Nat) : (stL2 t k).length = k := by simp [stL2]
theorem mkL2_len (t : ByteArray) (k : Nat) : (mkL2 t k).length = k := by simp [mkL2]
theorem ix14 (k : Nat) (h : k < 32) : IntKind.i64.wrap (14 + (k : Int)) = 14 + (k : Int) ∧ 0 ≤ 14 + (k : Int) ∧ 14 + (k : Int) < 64 ∧ (14 + (k : Int)).toNat = 14 + k := by
  refine ⟨by rw [IntKind.wrap_i64]; omega, by omega, by omega, by omega⟩
set_option maxRecDepth 100000 in
set_option maxHeartbeats 4000000 in
theorem rget_new (s : ByteArray) (hs : s.size ≤ 9223372036854775807) (w : World) : Calls Try.prog 19 #[.string s] w fun e w' => ∃ sv mv, e = .returned (.tuple #[lV (gtL s).n (gtL s).s (gtL s).ep sv mv, .int .i64 (gtE s)]) ∧ Nn w.heap.size w' sv (gtL s).sts ∧ Nn w.heap.size w' mv (gtL s).mks ∧ Kp w w' := by
  by_cases h64 : s.size = 64
  case neg =>
    have HE : Hid (gtE s = 4) := gtE_form (fun h => h64 h.1)
    have hb : ((s.size : Int) != 64) = true := by simp; omega
    clear h64
    go_enter Try.func19, Try.ntmps19
    go_wp2
    obtain ⟨r1, r2, r3⟩ := refused (s := s) (e := 4) HE.out (by omega) (w.alloc (.cells #[.int .i64 0, .int .i64 0, .int .i64 0, .slice none 0 0, .slice none 0 0] 32))
    refine bodyPost_ret (results_rl2 rfl _ _ w.heap.size rfl rfl (Lc.new w 0 0 0 (.slice none 0 0) (.slice none 0 0) 32)) rfl ?_
    exact ⟨_, _, congrArg Ending.returned r1, r2 _, r3 _, (Kp.refl w).alloc _⟩
  have hb : ((s.size : Int) != 64) = false := by simp [h64]
  have hl0 := Lc.new w 0 0 0 (.slice none 0 0) (.slice none 0 0) 32
  obtain ⟨W, hW⟩ : ∃ W, W = w.alloc (.cells #[.int .i64 0, .int .i64 0, .int .i64 0, .slice none 0 0, .slice none 0 0] 32) := ⟨_, rfl⟩
  have HW : Hid (W = w.alloc (.cells #[.int .i64 0, .int .i64 0, .int .i64 0, .slice none 0 0, .slice none 0 0] 32)) := hW
  have hz0 : ∀ o, W.frozen? ⟨w.heap.size, o, none⟩ = false := by rw [hW]; intro o; simp
  have K0 : Kp w W := by rw [hW]; exact (Kp.refl w).alloc _
  rw [← hW] at hl0
  have hlt0 : w.heap.size < W.heap.size := World.block_lt_of_cell? _ _ hl0.c0
  have HL0 : Hid (∀ V, Kp W V → Lc V w.heap.size 0 0 0 (.slice none 0 0) (.slice none 0 0) ∧ (∀ o, V.frozen? ⟨w.heap.size, o, none⟩ = false) ∧ Kp w V) := fun V k => ⟨hl0.kept k, Lc.frz k hlt0 hz0, K0.trans k⟩
  clear hW hl0 hz0 K0
  have hpe := pfx_eq (s.extract 0 4)
  by_cases hp : s.extract 0 4 = pfx
  case neg =>
    have HE : Hid (gtE s = 4) := gtE_form (fun h => hp h.2)
    rw [decide_eq_false hp] at hpe
    clear hp
    have hl0 := Lc.new w 0 0 0 (.slice none 0 0) (.slice none 0 0) 32
    clear HW HL0 hlt0
    go_enter Try.func19, Try.ntmps19
    go_wp2
    obtain ⟨r1, r2, r3⟩ := refused (s := s) (e := 4) HE.out (by omega) (w.alloc (.cells #[.int .i64 0, .int .i64 0, .int .i64 0, .slice none 0 0, .slice none 0 0] 32))
    refine bodyPost_ret (results_rl2 rfl _ _ w.heap.size rfl rfl (Lc.new w 0 0 0 (.slice none 0 0) (.slice none 0 0) 32)) rfl ?_
    exact ⟨_, _, congrArg Ending.returned r1, r2 _, r3 _, (Kp.refl w).alloc _⟩
  have HP : Hid (s.extract 0 4 = pfx) := hp
  rw [decide_eq_true hp] at hpe
  have hLd := fun w' => number_any (s.extract 46 50) (by rw [extract_size _ _ _ (by omega)]; omega) w'
  have hSl := fun w' => rsum_any (s.extract 0 46) (by rw [extract_size _ _ _ (by omega)]; omega) w'
  rw [sec_num s h64] at hLd
  rw [sec_sum s h64] at hSl
  have HSE : Hid (smE s ↔ nmN (fun i => bf s (46 + i)) 4 = smN (bf s) 46) := Iff.rfl
  have hlS := smN_lt (bf s) (bf_lt s) 46
  obtain ⟨NS, hNS⟩ : ∃ N, N = nmN (fun i => bf s (46 + i)) 4 := ⟨_, rfl⟩
  obtain ⟨SM, hSM⟩ : ∃ S, S = smN (bf s) 46 := ⟨_, rfl⟩
  rw [← hNS] at hLd HSE
  rw [← hSM] at hSl HSE hlS
  clear hNS hSM hp
  have hcv := wrap_u32 SM hlS
  have H64 : Hid (s.size = 64) := h64
  by_cases hsm : NS = SM
  case neg =>
    have HE : Hid (gtE s = 6) := gtE_sum H64.out HP.out (fun h => hsm (HSE.out.1 h))
    have hbs : ((NS : Int) != (SM : Int)) = true := by simp; omega
    clear hsm
    go_enter Try.func19, Try.ntmps19
    go_wp2_with fail
    rw [← HW.out]
    refine (hSl _).mono ?_; rintro e w1 ⟨rfl, e1⟩
    rw [e1]
    clear e1 w1 HW
    go_wp2_with fail
    refine (hLd _).mono ?_; rintro e w1 ⟨rfl, e1⟩
    rw [e1]
    clear e1 w1
    obtain ⟨⟨c0, c1, c2, c3, c4⟩, z, k⟩ := HL0.out W (Kp.refl W)
    clear hLd hSl
    go_wp2
    obtain ⟨r1, r2, r3⟩ := refused (s := s) (e := 6) HE.out (by omega) (over W w.heap.size 0 0 0 (.slice none 0 0) (.slice none 0 0))
    refine bodyPost_ret (results_rl2 rfl _ _ w.heap.size rfl rfl (Lc.over ⟨c0, c1, c2, c3, c4⟩)) rfl ?_
    exact ⟨_, _, congrArg Ending.returned r1, r2 _, r3 _, ((Trd.refl _ _).over _ _ _ _ _).kp w k (Nat.le_refl _)⟩
  have HSum : Hid (smE s) := HSE.out.2 hsm
  have hbs : ((NS : Int) != (SM : Int)) = false := by simp [hsm]
  clear hsm HSE
  have hi12 : 12 < s.size := by omega
  have hi13 : 13 < s.size := by omega
  have HB12 : Hid ((s[12]'hi12).toNat = bf s 12) := bf_at s 12 hi12
  have HB13 : Hid ((s[13]'hi13).toNat = bf s 13) := bf_at s 13 hi13
  have hx12 := bf_lt s 12
  have hx13 := bf_lt s 13
  have HPR : Hid (prs s = ⟨(bf s 12 : Nat), (bf s 13 : Nat), epN s, stL2 s (bf s 12), mkL2 s (bf s 12)⟩) := rfl
  obtain ⟨N, hN⟩ : ∃ N, N = bf s 12 := ⟨_, rfl⟩
  obtain ⟨S, hS⟩ : ∃ S, S = bf s 13 := ⟨_, rfl⟩
  rw [← hN] at HB12 hx12 HPR
  rw [← hS] at HB13 hx13 HPR
  have hw12 : wrap64 (((s[12]'hi12).toNat : Nat) : Int) = (N : Int) := by rw [HB12.out]; exact wrap_byte N hx12
  have hw13 : wrap64 (((s[13]'hi13).toNat : Nat) : Int) = (S : Int) := by rw [HB13.out]; exact wrap_byte S hx13
  have hv13 : IntKind.i64.wrap (((s[13]'hi13).toNat : Nat) : Int) = (S : Int) := by rw [HB13.out]; exact wrap_byte2 S hx13
  clear hN hS
  have HPN : Hid (lg (prs s) = true → 4 ≤ N ∧ N ≤ 32) := fun h => by
    have h1 := lg_gl h
    have h2 := h1.n1
    have h3 := h1.n2
    rw [HPR.out] at h2 h3
    simp only at h2 h3
    omega
  go_enter Try.func19, Try.ntmps19
  go_wp2_with fail
  rw [← HW.out]
  refine (hSl _).mono ?_; rintro e w1 ⟨rfl, e1⟩
  rw [e1]
  clear e1 w1 HW
  go_wp2_with fail
  refine (hLd _).mono ?_; rintro e w1 ⟨rfl, e1⟩
  rw [e1]
  clear e1 w1 hLd hSl
  by_cases hn1 : 4 ≤ N ∧ N ≤ 32
  case neg =>
    have HE : Hid (gtE s = 4) := gtE_not H64.out HP.out HSum.out (fun h => hn1 (HPN.out h.1))
    obtain ⟨⟨c0, c1, c2, c3, c4⟩, z, k⟩ := HL0.out W (Kp.refl W)
    by_cases hn4 : N < 4
    · clear hn1
      have hd : decide ((N : Int) < 4) = true := decide_eq_true (by omega)
      go_wp2
      obtain ⟨r1, r2, r3⟩ := refused (s := s) (e := 4) HE.out (by omega) (over W w.heap.size 0 0 0 (.slice none 0 0) (.slice none 0 0))
      refine bodyPost_ret (results_rl2 rfl _ _ w.heap.size rfl rfl (Lc.over ⟨c0, c1, c2, c3, c4⟩)) rfl ?_
      exact ⟨_, _, congrArg Ending.returned r1, r2 _, r3 _, ((Trd.refl _ _).over _ _ _ _ _).kp w k (Nat.le_refl _)⟩
    · have hn5 : 32 < N := by omega
      clear hn1
      go_wp2
      obtain ⟨r1, r2, r3⟩ := refused (s := s) (e := 4) HE.out (by omega) (over W w.heap.size 0 0 0 (.slice none 0 0) (.slice none 0 0))
      refine bodyPost_ret (results_rl2 rfl _ _ w.heap.size rfl rfl (Lc.over ⟨c0, c1, c2, c3, c4⟩)) rfl ?_
      exact ⟨_, _, congrArg Ending.returned r1, r2 _, r3 _, ((Trd.refl _ _).over _ _ _ _ _).kp w k (Nat.le_refl _)⟩
  obtain ⟨hn1, hn2⟩ := hn1
  have hs8 : (s.extract 4 12).size = 8 := by rw [extract_size _ _ _ (by omega)]
  have hNm := fun w' => number_any (s.extract 4 12) (by omega) w'
  have hnm : nmN (bf (s.extract 4 12)) (s.extract 4 12).size = nmN (fun i => bf s (4 + i)) 8 := by
    rw [hs8]
    exact nmN_congr 8 (fun i hi => bAt_extract s 4 12 i (by omega) (by omega))
  rw [hnm] at hNm
  have hwe : IntKind.i64.wrap ((nmN (fun i => bf s (4 + i)) 8 : Nat) : Int) = epN s := rfl
  obtain ⟨EP, hEP⟩ : ∃ EP, EP = epN s := ⟨_, rfl⟩
  obtain ⟨q, eq⟩ : ∃ q, q = nmN (fun i => bf s (4 + i)) 8 := ⟨_, rfl⟩
  rw [← hEP] at hwe HPR
  rw [← eq] at hNm hwe
  clear hnm hEP eq hs8
  go_wp2_with fail
  go_cut [6] (fun p wx => ∃ b, p = .pointer (some ⟨b, 0, none⟩) ∧ Hid (Lc wx b N S EP (.slice none 0 0) (.slice none 0 0)) ∧ Hid (∀ o, wx.frozen? ⟨b, o, none⟩ = false) ∧ Hid (b < wx.heap.size ∧ W.heap.size ≤ b) ∧ Hid (Kp W wx))
  case first =>
    have HEN : Hid (∀ t, Lc (W.alloc (.cells #[.int .i64 (N : Int), .int .i64 (S : Int), .int .i64 EP, .slice none 0 0, .slice none 0 0] t)).drew W.heap.size N S EP (.slice none 0 0) (.slice none 0 0)) := fun t => (Lc.new W N S EP _ _ t).kept (Kp.refl _).drew
    go_region_held3 (fun _ => True) (exact True.intro) (first | (go_at_call 37; refine (hNm _).mono ?_; rintro e wn ⟨rfl, e1⟩; rw [e1]; clear e1 wn))
    all_goals (go_wp2_with fail; go_meet)
    all_goals exact ⟨_, rfl, HEN.out _, fun o => by simp, ⟨by simp, Nat.le_refl _⟩, ((Kp.refl W).alloc _).drew⟩
  obtain ⟨B, rfl, HL1, HZ1, HB1, K1⟩ := hcut
  obtain ⟨w3, hw3⟩ : ∃ w3, w3 = wc := ⟨_, rfl⟩
  rw [← hw3] at HL1 HZ1 HB1 K1 ⊢
  clear hw3 hNm hwe hw12 hw13 hv13 hb hbs hpe hcv
  have HR0 : Hid (Rq 3 3 w w.heap.size w3.heap.size B N S EP w3 (.slice none 0 0) (.slice none 0 0) (stL2 s 0) (mkL2 s 0)) := by
    obtain ⟨q1, q2, q3⟩ := HL0.out _ K1.out
    have h0 : w.heap.size < w3.heap.size := World.block_lt_of_cell? _ _ q1.c0
    exact ⟨⟨HL1.out, HZ1.out, Oi.nil _ _ _, Oi.nil _ _ _, fun k hk => (by cases hk), HB1.out.1, Nat.le_refl _⟩, q1, q2, q3, h0, by have := HB1.out.2; omega, by omega, by have := HB1.out.2; omega⟩
  clear HL1 HZ1
  go_wp2
  go_loopw [7] (fun i wr => ∃ (k : Nat) (sv mv : Value), k ≤ N ∧ i = .int .i64 k ∧ Hid (Rq 3 3 w w.heap.size w3.heap.size B N S EP wr sv mv (stL2 s k) (mkL2 s k))) (fun i _ => N - (intOf i).toNat)
  case atStart => exact ⟨0, _, _, Nat.zero_le _, rfl, HR0⟩
  case round =>
    clear HR0
    obtain ⟨k, sv, mv, hk, rfl, HR⟩ := hrel
    obtain ⟨a1, n1, p1, rfl⟩ := HR.out.g.o1.shape
    obtain ⟨a2, n2, p2, rfl⟩ := HR.out.g.o2.shape
    obtain ⟨c0, c1, c2, c3, c4⟩ := HR.out.g.lb
    by_cases hlt : k < N
    · have htk : 14 + k < s.size := by omega
      have HB : Hid ((s[14 + k]'htk).toNat = bf s (14 + k)) := bf_at s (14 + k) htk
      have hx := bf_lt s (14 + k)
      have HS1 := stL2_step s k
      have HS2 := mkL2_step s k
      obtain ⟨x, ex⟩ : ∃ x, x = bf s (14 + k) := ⟨_, rfl⟩
      rw [← ex] at HB hx HS1 HS2
      clear ex
      have hwx : wrap64 (((s[14 + k]'htk).toNat : Nat) : Int) = ((x : Nat) : Int) := by rw [HB.out]; exact wrap_byte x hx
      have hvx : IntKind.i64.wrap (((s[14 + k]'htk).toNat : Nat) : Int) = ((x : Nat) : Int) := by rw [HB.out]; exact wrap_byte2 x hx
      obtain ⟨d1, d2, d3⟩ := byte_parts x hx
      obtain ⟨hi0, hi1, hi2, hi3⟩ := ix14 k (by omega)
      have hBl : B < wr.heap.size := World.block_lt_of_cell? _ _ c0
      have hBn : B ≠ wr.heap.size := by omega
      obtain ⟨y, hy⟩ : ∃ y, y = x / 64 := ⟨_, rfl⟩
      obtain ⟨z, hz⟩ : ∃ z, z = x % 64 := ⟨_, rfl⟩
      rw [← hy] at d1 d3 HS1
      rw [← hz] at d2 HS2
      have HT1 : Hid (stL2 s k ++ [((y : Nat) : Int)] = stL2 s (k + 1)) := HS1.symm
      have HT2 : Hid (mkL2 s k ++ [((z : Nat) : Int)] = mkL2 s (k + 1)) := HS2.symm
      clear hy hz HS1 HS2 HB
      go_wp2_with fail
      go_cut [7] (fun i wx => i = .int .i64 k ∧ ∃ b9 m9 q9, Hid (Rq 3 3 w w.heap.size w3.heap.size B N S EP wx (.slice b9 m9 q9) (.slice a2 n2 p2) (stL2 s (k + 1)) (mkL2 s k)))
      case first =>
        go_region_law (refine step_app_i eiI (by rfl) (.tmp 55) (.tmp 62) (by rfl) w3.heap.size _ (stL2 s k) (by rfl) (HR.out.kept (by first | exact ((Kp.refl wr).alloc _).drew | exact ((Kp.refl wr).drew).alloc _)).g.o1 ((y : Nat) : Int) wr.heap.size (by rfl) (by first | (rw [World.cell?_alloc_at _ _ _ _ rfl]; rfl) | (rw [World.cell?_drew, World.cell?_alloc_at _ _ _ _ rfl]; rfl)) (by rw [stL2_len]; omega) (by have := HR.out.g.hb; simp; omega) ?_; intro v2 w9 f9 a9; obtain ⟨b9, m9, q9, rfl⟩ := f9.shape; have HQ : Hid (Rq 3 3 w w.heap.size w3.heap.size B N S EP (w9.setCell ⟨B, 3, none⟩ (.slice b9 m9 q9)) (.slice b9 m9 q9) (.slice a2 n2 p2) (stL2 s (k + 1)) (mkL2 s k)) := (by have hh := (HR.out.kept (by first | exact ((Kp.refl wr).alloc _).drew | exact ((Kp.refl wr).drew).alloc _)).put1 a9 f9; rw [HT1.out] at hh; exact hh); obtain ⟨⟨e0, e1, e2, e3, e4⟩, z9⟩ := (HR.out.kept (by first | exact ((Kp.refl wr).alloc _).drew | exact ((Kp.refl wr).drew).alloc _)).g.after1 a9; clear f9 a9)
        all_goals (go_wp2_with fail; go_meet)
        all_goals exact ⟨rfl, _, _, _, HQ⟩
      obtain ⟨rfl, b1, m1, q1, HR2⟩ := hcut
      obtain ⟨wr2, hwr2⟩ : ∃ v, v = wc := ⟨_, rfl⟩
      rw [← hwr2] at HR2 ⊢
      clear HR hwr2 c0 c1 c2 c3 c4 hBl hBn
      obtain ⟨c0, c1, c2, c3, c4⟩ := HR2.out.g.lb
      have hBl : B < wr2.heap.size := World.block_lt_of_cell? _ _ c0
      have hBn : B ≠ wr2.heap.size := by omega
      go_wp2_with fail
      go_region_law (refine step_app_i eiI (by rfl) (.tmp 66) (.tmp 73) (by rfl) w3.heap.size _ (mkL2 s k) (by rfl) (HR2.out.kept (by first | exact ((Kp.refl wr2).alloc _).drew | exact ((Kp.refl wr2).drew).alloc _)).g.o2 ((z : Nat) : Int) wr2.heap.size (by rfl) (by first | (rw [World.cell?_alloc_at _ _ _ _ rfl]; rfl) | (rw [World.cell?_drew, World.cell?_alloc_at _ _ _ _ rfl]; rfl)) (by rw [mkL2_len]; omega) (by have := HR2.out.g.hb; simp; omega) ?_; intro v2 w9 f9 a9; obtain ⟨b9, m9, q9, rfl⟩ := f9.shape; have HQ : Hid (Rq 3 3 w w.heap.size w3.heap.size B N S EP (w9.setCell ⟨B, 4, none⟩ (.slice b9 m9 q9)) (.slice b1 m1 q1) (.slice b9 m9 q9) (stL2 s (k + 1)) (mkL2 s (k + 1))) := (by have hh := (HR2.out.kept (by first | exact ((Kp.refl wr2).alloc _).drew | exact ((Kp.refl wr2).drew).alloc _)).put2 a9 f9; rw [HT2.out] at hh; exact hh); obtain ⟨⟨e0, e1, e2, e3, e4⟩, z9⟩ := (HR2.out.kept (by first | exact ((Kp.refl wr2).alloc _).drew | exact ((Kp.refl wr2).drew).alloc _)).g.after2 a9; clear f9 a9)
      all_goals (
        clear c0 c1 c2 c3 c4 hBl hBn
        go_wp2
        go_roundw
        case rel => exact ⟨k + 1, _, _, by omega, by go_num, HQ⟩
        case measure => simp [intOf]; omega)
    · obtain rfl : k = N := by omega
      have NL := And.intro HR.out.g.o1.nums HR.out.g.o2.nums
      have hPu := fun w' (kk : Kp wr w') => rput_any ⟨(k : Int), (S : Int), EP, stL2 s k, mkL2 s k⟩ (.slice a1 n1 p1) (.slice a2 n2 p2) w' (NL.1.kept kk) (NL.2.kept kk)
      have HOK : Hid (okS s ↔ lg ⟨(k : Int), (S : Int), EP, stL2 s k, mkL2 s k⟩ = true ∧ ptS ⟨(k : Int), (S : Int), EP, stL2 s k, mkL2 s k⟩ = s) := by
        show _ ↔ _
        unfold okS
        rw [HPR.out]
      clear NL
      simp only at hPu
      unfold lV at hPu
      cases e2 : lg ⟨(k : Int), (S : Int), EP, stL2 s k, mkL2 s k⟩ with
      | false =>
        have HE : Hid (gtE s = 4) := gtE_not H64.out HP.out HSum.out (fun h => by have := (HOK.out.1 h).1; rw [e2] at this; cases this)
        have hpe : puE ⟨(k : Int), (S : Int), EP, stL2 s k, mkL2 s k⟩ = 4 := if_neg (by rw [e2]; simp)
        rw [hpe] at hPu
        obtain ⟨PS, hPS⟩ : ∃ PS, PS = puS ⟨(k : Int), (S : Int), EP, stL2 s k, mkL2 s k⟩ := ⟨_, rfl⟩
        rw [← hPS] at hPu
        clear hPS hpe e2 HOK
        go_wp2_with fail
        refine (hPu _ (Kp.refl wr)).mono ?_; rintro e w6 ⟨rfl, k6⟩
        have HR6 : Hid (Rq 3 3 w w.heap.size w3.heap.size B k S EP w6 (.slice a1 n1 p1) (.slice a2 n2 p2) (stL2 s k) (mkL2 s k)) := HR.out.kept k6
        clear hPu k6 c0 c1 c2 c3 c4
        obtain ⟨c0, c1, c2, c3, c4⟩ := HR6.out.l0
        have z := HR6.out.f0
        go_wp2
        obtain ⟨r1, r2, r3⟩ := refused (s := s) (e := 4) HE.out (by omega) (over w6 w.heap.size 0 0 0 (.slice none 0 0) (.slice none 0 0))
        refine bodyPost_ret (results_rl2 rfl _ _ w.heap.size rfl rfl (Lc.over ⟨c0, c1, c2, c3, c4⟩)) rfl ?_
        exact ⟨_, _, congrArg Ending.returned r1, r2 _, r3 _, ((Trd.refl _ _).over _ _ _ _ _).kp w HR6.out.k (Nat.le_refl _)⟩
      | true =>
        have hpe : puE ⟨(k : Int), (S : Int), EP, stL2 s k, mkL2 s k⟩ = 0 := if_pos e2
        have hps : puS ⟨(k : Int), (S : Int), EP, stL2 s k, mkL2 s k⟩ = ptS ⟨(k : Int), (S : Int), EP, stL2 s k, mkL2 s k⟩ := if_pos e2
        rw [hpe, hps] at hPu
        have HLG : Hid (lg ⟨(k : Int), (S : Int), EP, stL2 s k, mkL2 s k⟩ = true) := e2
        obtain ⟨PS, hPS⟩ : ∃ PS, PS = ptS ⟨(k : Int), (S : Int), EP, stL2 s k, mkL2 s k⟩ := ⟨_, rfl⟩
        rw [← hPS] at hPu HOK
        clear hPS hpe hps e2
        have hcmp := lst_eq PS s
        by_cases hq : PS = s
        case neg =>
          have HE : Hid (gtE s = 4) := gtE_not H64.out HP.out HSum.out (fun h => hq (HOK.out.1 h).2)
          rw [decide_eq_false hq] at hcmp
          clear hq HOK
          go_wp2_with fail
          refine (hPu _ (Kp.refl wr)).mono ?_; rintro e w6 ⟨rfl, k6⟩
          have HR6 : Hid (Rq 3 3 w w.heap.size w3.heap.size B k S EP w6 (.slice a1 n1 p1) (.slice a2 n2 p2) (stL2 s k) (mkL2 s k)) := HR.out.kept k6
          clear hPu k6 c0 c1 c2 c3 c4
          obtain ⟨c0, c1, c2, c3, c4⟩ := HR6.out.l0
          have z := HR6.out.f0
          go_wp2
          obtain ⟨r1, r2, r3⟩ := refused (s := s) (e := 4) HE.out (by omega) (over w6 w.heap.size 0 0 0 (.slice none 0 0) (.slice none 0 0))
          refine bodyPost_ret (results_rl2 rfl _ _ w.heap.size rfl rfl (Lc.over ⟨c0, c1, c2, c3, c4⟩)) rfl ?_
          exact ⟨_, _, congrArg Ending.returned r1, r2 _, r3 _, ((Trd.refl _ _).over _ _ _ _ _).kp w HR6.out.k (Nat.le_refl _)⟩
        rw [decide_eq_true hq] at hcmp
        have hE0 : gtE s = 0 := gtE_ok H64.out HP.out HSum.out (HOK.out.2 ⟨HLG.out, hq⟩)
        have HE : Hid (gtE s = 0) := hE0
        have HGL : Hid (gtL s = ⟨(k : Int), (S : Int), EP, stL2 s k, mkL2 s k⟩) := by show gtL s = _; rw [gtL_ok hE0, HPR.out]
        clear hq HOK hE0
        go_wp2_with fail
        refine (hPu _ (Kp.refl wr)).mono ?_; rintro e w6 ⟨rfl, k6⟩
        have HR6 : Hid (Rq 3 3 w w.heap.size w3.heap.size B k S EP w6 (.slice a1 n1 p1) (.slice a2 n2 p2) (stL2 s k) (mkL2 s k)) := HR.out.kept k6
        clear hPu k6 c0 c1 c2 c3 c4 HR
        obtain ⟨c0, c1, c2, c3, c4⟩ := HR6.out.l0
        obtain ⟨d0, d1, d2, d3, d4⟩ := HR6.out.g.lb
        have z := HR6.out.f0
        have hneB : w.heap.size ≠ B := HR6.out.ne
        have hneC : B ≠ w.heap.size := fun e => hneB e.symm
        go_wp2
        have t2 := (Trd.refl w.heap.size w6).over k S EP (.slice a1 n1 p1) (.slice a2 n2 p2)
        have n1 : Nn w.heap.size _ _ (stL2 s k) := (t2.oi HR6.out.g.o1 (HR6.out.g.n1 _ HR6.out.hr)).nn HR6.out.hw
        have n2 : Nn w.heap.size _ _ (mkL2 s k) := (t2.oi HR6.out.g.o2 (HR6.out.g.n2 _ HR6.out.hr)).nn HR6.out.hw
        refine bodyPost_ret (results_rl2 rfl _ _ w.heap.size rfl rfl (Lc.over (n2 := k) (s2 := S) (ep2 := EP) ⟨c0, c1, c2, c3, c4⟩)) rfl ?_
        rw [HGL.out, HE.out]
        exact ⟨_, _, rfl, n1, n2, t2.kp w HR6.out.k (Nat.le_refl _)⟩
theorem rget_any (s : ByteArray) (hs : s.size ≤ 9223372036854775807) (w : World) : Calls Try.prog 19 #[.string s] w fun e w' => ∃ sv mv, e = .returned (.tuple #[lV (gtL s).n (gtL s).s (gtL s).ep sv mv, .int .i64 (gtE s)]) ∧ Nl w' sv (gtL s).sts ∧ Nl w' mv (gtL s).mks ∧ Kp w w' :=
  (rget_new s hs w).mono fun _ _ ⟨sv, mv, h1, h2, h3, h4⟩ => ⟨sv, mv, h1, h2.nl, h3.nl, h4⟩

end Go.Proofs.Ytobpgfnmhpgkeaa
