/-
  A contract of the document's Rot. Conditions: that the member lies in memory; few writes wait.
-/
import Derived.Test.YtohakbhjkhhcaaaMmRef4
namespace Go.Proofs.Ytohakbhjkhhcaaa
open Go.RowKit Plain
set_option linter.unusedVariables false

theorem wpList_append_pcl {w : World} {ops : Array Oper} {rest : List Oper} {o : Oper} {a : Act} {Q : Exit → Act → World → Prop} (hgd : o.guard = none) (s x : Operand)
    (ho : o.op = .call { callee := .builtin .append, args := #[s, x], argTypes := #[34, 34] }) (v : Value) (r : List (Nat × ByteArray)) (hs : a.eval s = v) (w0 : World) (hk : Kp w0 w) (hq : w.ownsRow w0.heap.size 87 2 v r.length (pcs r)) (N c : Nat) (p : Nat × ByteArray) (hx : a.eval x = .slice (some ⟨N, 0, none⟩) 1 c)
    (d0 : w.cell? ⟨N, 0, none⟩ = some (.int .i64 (p.1 : Int))) (d1 : w.cell? ⟨N, 1, none⟩ = some (.string p.2)) (hb : r.length < 1000000)
    (h : ∀ v' w', w'.ownsRow w0.heap.size 87 2 v' (r ++ [p]).length (pcs (r ++ [p])) → Kp w0 w' → wpList Try.prog ops Q rest (a.put o.dst v') w') : wpList Try.prog ops Q (o :: rest) a w := by
  obtain ⟨i, hi, hzz⟩ := Option.map_eq_some_iff.1 info87
  simp only [Prod.mk.injEq] at hzz
  obtain ⟨hz0, hs0, hby⟩ := hzz
  refine wpList_append_own_at (P := Try.prog) w hgd s x 34 ho w0.heap.size 87 i _ 2 24 Try.underlying34 hi hz0 hs0 hby rfl (by omega) v r.length (pcs r) hs hq ⟨N, 0, none⟩ 1 c [.int .i64 (p.1 : Int), .string p.2] hx rfl (fun j u hu => ?_) (fun u hu => ?_) (by unfold maxLen; omega) (by omega) hk.size (fun v' w' h1 h2 _ h4 => h v' w' ?_ (hk.grown h2 (fun g hg => (hq.lt g hg).1)))
  · have hj := (List.getElem?_eq_some_iff.1 hu).1
    have : j = 0 ∨ j = 1 := by simp at hj; omega
    rw [Addr.add_mid]
    rcases this with rfl | rfl
    · simp at hu; subst hu; exact d0
    · simp at hu; subst hu; exact d1
  · simp at hu
    rcases hu with rfl | rfl <;> rfl
  · rw [List.length_append, pcs_app]
    exact h1
set_option maxRecDepth 100000 in
set_option maxHeartbeats 1000000 in
theorem rrot_any {w : World} {r gs cap : Nat} {wv : Value} {S : MS} (h : RefIn w r gs cap wv S) (k : Int) (s : ByteArray) (hrl : S.row.length < 1000000) :
    Calls Try.prog 29 #[.pointer (some ⟨r, 0, none⟩), .int .i64 k, .string s] w fun e w' => e = .returned (.bool (rtB S k s)) ∧ Rd w w' r gs wv (rt S k s) := by
  have hm := may_any h k
  by_cases hE : rcE S k = 0
  · rw [hE] at hm
    by_cases hs : s.size = 64
    · have e1 : rtB S k s = true := by unfold rtB; simp [hE, hs]
      have e2 : rt S k s = ⟨S.now.set k.toNat s, S.las.set k.toNat s, tk (nq k) 0 S.row, S.dead, S.c⟩ := if_pos e1
      obtain ⟨hd, h0, hlt⟩ := rc_ok hE
      obtain ⟨i, rfl⟩ : ∃ i : Nat, k = (i : Int) := ⟨k.toNat, by omega⟩
      rw [Int.toNat_natCast] at e2
      rw [e1, e2]
      have hss : (s.size : Int) = 64 := by omega
      have H := hid h
      have HS := hid hs
      have hi : i < S.las.length := by omega
      clear hE e1 e2 hs hd h0
      obtain ⟨a, cc, rfl, hn1, hn2⟩ := h.wl
      obtain ⟨n, hn⟩ : ∃ n, n = S.row.length := ⟨_, rfl⟩
      rw [← hn] at H hn1 hrl ⊢
      have HN := hid hn
      clear hn h
      go_enter Try.func29, Try.ntmps29
      go_wp2_with fail
      refine hm.mono ?_
      rintro e w1 ⟨rfl, rfl⟩
      clear hm
      go_wp2_with fail
      go_loopw [8, 9] (fun v j wr => ∃ k : Nat, k ≤ n ∧ j = .int .i64 k ∧ Hid (wr.ownsRow w1.heap.size 87 2 v (tk (nq (i : Int)) 0 (S.row.take k)).length (pcs (tk (nq (i : Int)) 0 (S.row.take k)))) ∧ Hid (Kp w1 wr)) (fun _ j _ => n - (intOf j).toNat)
      case atStart => exact ⟨0, by omega, by go_num, World.ownsRow_nil _ _ _ _, Kp.refl _⟩
      case round =>
        obtain ⟨k, hk, rfl, HO, HK⟩ := hrel
        have HM := hid (H.out.kp HK.out)
        have c1 := HM.out.c1
        by_cases hlt : k < n
        · obtain ⟨g, c', hv, hat⟩ := HM.out.wat (show 0 < S.row.length by rw [← HN.out]; omega)
          obtain rfl : a = some ⟨g, 0, none⟩ := by simp only [Value.slice.injEq] at hv; exact hv.1
          have hks : k < S.row.length := by rw [← HN.out]; exact hlt
          obtain ⟨d0, d1⟩ := hat k hks
          have hpt := tk_take (nq (i : Int)) S.row k hks
          obtain ⟨p, hp⟩ : ∃ p, p = S.row.getD k (0, noS) := ⟨_, rfl⟩
          rw [← hp] at d0 d1 hpt
          obtain ⟨x, y⟩ := p
          simp only at d0 d1
          have hkn : (k : Int) < (n : Int) := by omega
          clear hp hv hat
          by_cases hx : x = i
          · rw [show nq (i : Int) k (x, y) = false from by simp [nq, hx]] at hpt
            simp only [Bool.false_eq_true, if_false] at hpt
            rw [← show tk (nq (i : Int)) 0 (S.row.take (k + 1)) = tk (nq (i : Int)) 0 (S.row.take k) from hpt] at HO
            have hxe : ((x : Int) == (i : Int)) = true := by simp [hx]
            clear hpt
            subst hx
            clear hxe
            go_wp2
            go_roundw
            case rel => exact ⟨k + 1, by omega, by go_num, HO, HK⟩
            case measure => simp [intOf]; omega
          · rw [show nq (i : Int) k (x, y) = true from by simp [nq]; omega] at hpt
            simp only [if_true] at hpt
            have hxe : ((x : Int) == (i : Int)) = false := by simp; omega
            have hlen : (tk (nq (i : Int)) 0 (S.row.take k)).length < 1000000 := by have := tk_len (nq (i : Int)) (S.row.take k) 0; rw [List.length_take] at this; omega
            obtain ⟨W, hW⟩ : ∃ W, W = wr.alloc (.cells #[.int .i64 (x : Int), .string y] 87) := ⟨_, rfl⟩
            have kW : Kp wr W := by rw [hW]; exact (Kp.refl wr).alloc _
            have D0 : W.cell? ⟨wr.heap.size, 0, none⟩ = some (.int .i64 (x : Int)) := by rw [hW, World.cell?_alloc_at _ _ _ _ rfl]; rfl
            have D1 : W.cell? ⟨wr.heap.size, 1, none⟩ = some (.string y) := by rw [hW, World.cell?_alloc_at _ _ _ _ rfl]; rfl
            have hq := (kW.sp []).own HO.out (fun _ _ => by simp)
            have hkk := HK.out.trans kW
            rw [hW] at D0 D1 hq hkk
            have HD0 := hid D0
            have HD1 := hid D1
            have HQ := hid hq
            have HKK := hid hkk
            have HPT := hid hpt
            have HL := hid hlen
            clear D0 D1 hq hW kW hkk hpt HO HK HM hlen
            go_wp2_with (refine wpList_append_pcl rfl _ _ rfl _ (tk (nq (i : Int)) 0 (S.row.take k)) rfl w1 HKK.out HQ.out wr.heap.size 1 (x, y) rfl HD0.out HD1.out HL.out ?_)
            intro v' w3 q3 k3
            have q3' : w3.ownsRow w1.heap.size 87 2 v' (tk (nq (i : Int)) 0 (S.row.take (k + 1))).length (pcs (tk (nq (i : Int)) 0 (S.row.take (k + 1)))) := by rw [show tk (nq (i : Int)) 0 (S.row.take (k + 1)) = tk (nq (i : Int)) 0 (S.row.take k) ++ [(x, y)] from HPT.out, List.length_append]; exact q3
            have HQ3 := hid q3'
            have HK3 := hid k3
            clear q3 q3' k3 HD0 HD1 HQ HKK HPT HL
            go_wp2
            go_roundw
            case rel => exact ⟨k + 1, by omega, by go_num, HQ3, HK3⟩
            case measure => simp [intOf]; omega
        · obtain rfl : k = n := by omega
          have hkn : ¬ (k : Int) < (k : Int) := by omega
          rw [show S.row.take k = S.row by rw [HN.out, List.take_length]] at HO
          have hq := HO.out
          obtain ⟨R, hR⟩ : ∃ R, R = tk (nq (i : Int)) 0 S.row := ⟨_, rfl⟩
          rw [← hR] at hq
          obtain ⟨g', n', c', hv'⟩ : ∃ g' n' c', u8 = .slice g' n' c' := by
            rcases hq.2 with ⟨rfl, _⟩ | ⟨g, c, cur, rfl, _⟩
            · exact ⟨_, _, _, rfl⟩
            · exact ⟨_, _, _, rfl⟩
          subst hv'
          have g3 : ∀ g, (Value.slice g' n' c').ownBlock = some g → w1.heap.size ≤ g := fun g hg => (hq.lt g hg).1
          have hq0 : wr.ownsRow 0 87 2 (.slice g' n' c') R.length (pcs R) := by
            have q1 := hq.1
            rcases hq.2 with h | ⟨g, c, cur, h1, h2, h3⟩
            · exact ⟨q1, .inl h⟩
            · exact ⟨q1, .inr ⟨g, c, cur, h1, Nat.zero_le _, h3⟩⟩
          have M3 := HM.out.row (Sp.refl _ _) (.slice g' n' c') R hq0 (fun g hg => by
            have h1 := H.out.hr; have h2 := H.out.hg; have h3 := g3 g hg; exact ⟨by omega, by omega⟩) (fun p hp => H.out.fine.br p (tk_mem _ _ _ p (by rw [← hR]; exact hp)))
          have M4 := M3.sector i hi s HS.out
          simp only at M4
          have N4 : Nw w1 (rblk r gs (.slice a k cc)) (rblk r gs (.slice g' n' c')) := fun t ht => by
            simp only [rblk, List.mem_cons] at ht
            rcases ht with rfl | rfl | ht
            · exact .inl (by simp [rblk])
            · exact .inl (by simp [rblk])
            · exact .inr (g3 t (by simpa using ht))
          have S4 : Sp (rblk r gs (.slice a k cc)) w1 ((wr.setCell ⟨r, 1, none⟩ (.slice g' n' c')).setCell ⟨gs, i, none⟩ (.string s)) := ((HK.out.sp _).set r 1 (by simp [rblk]) _).set gs i (by simp [rblk]) _
          have z1 := HM.out.z 1
          have c0 := HM.out.c0
          have cs := HM.out.s i hi
          have zs := HM.out.sz i
          have n1 := HM.out.n1
          have n1' := HM.out.n1.symm
          have k1 := M3.k1
          have k2 := M3.k2
          simp only at c0 cs k1
          obtain ⟨m, hm⟩ : ∃ m, m = S.las.length := ⟨_, rfl⟩
          rw [← hm] at c0 k1
          have him : (i : Int) < (m : Int) := by omega
          have HM4 := hid M4
          have HN4 := hid N4
          have HS4 := hid S4
          have HR := hid hR
          clear hR M3 M4 N4 S4 g3 hq hq0 HO HM H hm HK
          go_wp2
          go_ret
          refine ⟨rfl, gs, cap, _, ?_, HS4.out, HN4.out⟩
          rw [← HR.out]
          have M5 := HM4.out
          exact ⟨M5.hr, M5.hg, M5.c0, M5.c1, M5.c2, M5.cn, M5.z, M5.s, M5.sz, M5.q, M5.k1, M5.k2, M5.n1, M5.n2, ⟨M5.fine.n1, M5.fine.n2, by simpa using M5.fine.nn, set_all M5.fine.bn i s HS.out, M5.fine.bl, M5.fine.br⟩⟩
    · have e1 : rtB S k s = false := by unfold rtB; simp [hs]
      have e2 : rt S k s = S := by unfold rt; rw [e1]; rfl
      rw [e1, e2]
      have hs3 : ¬ (s.size : Int) = 64 := by omega
      clear hE hs e1 e2
      go_enter Try.func29, Try.ntmps29
      go_wp2_with fail
      refine hm.mono ?_
      rintro e w1 ⟨rfl, rfl⟩
      have hR : Rd w1 w1 r gs wv S := ⟨gs, cap, wv, h, Sp.refl _ _, Nw.refl _ _⟩
      clear h hm
      go_wp2
      go_ret
      exact ⟨rfl, hR⟩
  · have e1 : rtB S k s = false := by unfold rtB; simp [hE]
    have e2 : rt S k s = S := by unfold rt; rw [e1]; rfl
    rw [e1, e2]
    obtain ⟨E, hEE⟩ : ∃ E, E = rcE S k := ⟨_, rfl⟩
    rw [← hEE] at hE hm
    have hE2 : (E == 0) = false := by simpa using hE
    clear hEE hE e1 e2
    go_enter Try.func29, Try.ntmps29
    go_wp2_with fail
    refine hm.mono ?_
    rintro e w1 ⟨rfl, rfl⟩
    have hR : Rd w1 w1 r gs wv S := ⟨gs, cap, wv, h, Sp.refl _ _, Nw.refl _ _⟩
    clear h hm
    go_wp2
    go_ret
    exact ⟨rfl, hR⟩

end Go.Proofs.Ytohakbhjkhhcaaa
