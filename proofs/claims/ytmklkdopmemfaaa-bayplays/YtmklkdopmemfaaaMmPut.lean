/-
  Contracts of the document's Put, Now and Read. Conditions: that the member lies in memory; few writes wait.
-/
import Derived.Test.YtmklkdopmemfaaaMmRef
namespace Go.Proofs.Ytmklkdopmemfaaa
open Go.RowKit Plain
set_option linter.unusedVariables false

theorem info87 : (Try.prog.info? 106).map (fun i => (i.zero, i.size, i.bytes)) = some (some (.agg #[.int .i64 0, .string ByteArray.empty]), 2, 24) := by kernel_rfl
theorem wpList_append_pc {w : World} {ops : Array Oper} {rest : List Oper} {o : Oper} {a : Act} {Q : Exit → Act → World → Prop} (hgd : o.guard = none) (s x : Operand)
    (ho : o.op = .call { callee := .builtin .append, args := #[s, x], argTypes := #[38, 38] }) (v : Value) (r : List (Nat × ByteArray)) (hs : a.eval s = v) (hq : w.ownsRow 0 106 2 v r.length (pcs r)) (N c : Nat) (p : Nat × ByteArray) (hx : a.eval x = .slice (some ⟨N, 0, none⟩) 1 c)
    (d0 : w.cell? ⟨N, 0, none⟩ = some (.int .i64 (p.1 : Int))) (d1 : w.cell? ⟨N, 1, none⟩ = some (.string p.2)) (hb : r.length < 1000000)
    (h : ∀ v' w', w'.ownsRow 0 106 2 v' (r ++ [p]).length (pcs (r ++ [p])) → Sp v.ownBlock.toList w w' → (v'.ownBlock = v.ownBlock ∨ v'.ownBlock = some w.heap.size) → wpList Try.prog ops Q rest (a.put o.dst v') w') : wpList Try.prog ops Q (o :: rest) a w := by
  obtain ⟨i, hi, hzz⟩ := Option.map_eq_some_iff.1 info87
  simp only [Prod.mk.injEq] at hzz
  obtain ⟨hz0, hs0, hby⟩ := hzz
  refine wpList_append_own_at (P := Try.prog) w hgd s x 38 ho 0 106 i _ 2 24 Try.underlying38 hi hz0 hs0 hby rfl (by omega) v r.length (pcs r) hs hq ⟨N, 0, none⟩ 1 c [.int .i64 (p.1 : Int), .string p.2] hx rfl (fun j u hu => ?_) (fun u hu => ?_) (by unfold maxLen; omega) (by omega) (Nat.zero_le _) (fun v' w' h1 h2 _ h4 => h v' w' ?_ ⟨h2.os, h2.tape, h2.output, h2.size, fun k hk hn => h2.block k hk (fun e => hn (by rw [← e]; simp))⟩ h4)
  · have hj := (List.getElem?_eq_some_iff.1 hu).1
    have : j = 0 ∨ j = 1 := by simp at hj; omega
    rw [Addr.add_mid]
    rcases this with rfl | rfl
    · simp at hu; subst hu; exact d0
    · simp at hu; subst hu; exact d1
  · simp at hu
    rcases hu with rfl | rfl <;> rfl
  · rw [List.length_append, pcs_app]
    exact h1
theorem wrap_up (x : Int) : IntKind.i64.wrap (x + 1) = wrap64 (x + 1) := by simp only [wrap64, IntKind.wrap_i64]
theorem RefIn.wl {w : World} {r gs cap : Nat} {wv : Value} {S : MS} (h : RefIn w r gs cap wv S) : ∃ a c, wv = .slice a S.row.length c ∧ S.row.length ≤ c ∧ c ≤ 9223372036854775807 := by
  rcases h.q.2 with ⟨rfl, h1⟩ | ⟨g, c, cur, rfl, _, _, hn, hm, _⟩
  · exact ⟨none, 0, by rw [h1], by omega, by omega⟩
  · exact ⟨_, c, rfl, hn, by unfold maxLen at hm; omega⟩
theorem RefIn.wat {w : World} {r gs cap : Nat} {wv : Value} {S : MS} (h : RefIn w r gs cap wv S) (h0 : 0 < S.row.length) : ∃ g c, wv = .slice (some ⟨g, 0, none⟩) S.row.length c ∧ ∀ i, i < S.row.length → w.cell? ⟨g, i * 2, none⟩ = some (.int .i64 ((S.row.getD i (0, noS)).1 : Int)) ∧ w.cell? ⟨g, i * 2 + 1, none⟩ = some (.string (S.row.getD i (0, noS)).2) := by
  rcases h.q.2 with ⟨_, h1⟩ | ⟨g, c, cur, e, _⟩
  · omega
  · have hq := h.q
    rw [e] at hq
    refine ⟨g, c, e, fun i hi => ⟨?_, ?_⟩⟩
    · rw [hq.cellAt (i * 2) (by omega)]; exact (pcs_at S.row i hi).1
    · rw [hq.cellAt (i * 2 + 1) (by omega)]; exact (pcs_at S.row i hi).2
set_option maxRecDepth 100000 in
set_option maxHeartbeats 1000000 in
theorem put_any {w : World} {r gs cap : Nat} {wv : Value} {S : MS} (h : RefIn w r gs cap wv S) (k : Int) (s : ByteArray) (hrl : S.row.length < 1000000) :
    Calls Try.prog 61 #[.pointer (some ⟨r, 0, none⟩), .int .i64 k, .string s] w fun e w' => e = .returned (.int .i64 (wrE S k s)) ∧ Rd w w' r gs wv (wr S k s) := by
  have hm := may_any h k
  by_cases hE : rcE S k = 0
  · rw [hE] at hm
    by_cases hs : s.size = 64
    · have e1 : wrE S k s = 0 := by unfold wrE; rw [if_pos hE, if_pos hs]
      have e2 : wr S k s = ⟨S.now.set k.toNat s, S.las, S.row ++ [(k.toNat, s)], S.dead, up S.c 1⟩ := if_pos e1
      obtain ⟨hd, h0, hlt⟩ := rc_ok hE
      obtain ⟨i, rfl⟩ : ∃ i : Nat, k = (i : Int) := ⟨k.toNat, by omega⟩
      rw [Int.toNat_natCast] at e2
      rw [e1, e2]
      have hss : (s.size : Int) = 64 := by omega
      have c1 := h.c1
      have H := hid h
      have HS := hid hs
      have hi : i < S.las.length := by omega
      have hr := h.hr
      clear hE e1 e2 hs hd h0
      obtain ⟨a, cc, rfl, z1_, z2_⟩ := h.wl
      obtain ⟨n, hn⟩ : ∃ n, n = S.row.length := ⟨_, rfl⟩
      rw [← hn] at c1 H ⊢
      have HN := hid hn
      clear hn h z1_
      go_enter Try.func61, Try.ntmps61
      go_wp2_with fail
      refine hm.mono ?_
      rintro e w1 ⟨rfl, rfl⟩
      obtain ⟨W, hW⟩ : ∃ W, W = w1.alloc (.cells #[.int .i64 (i : Int), .string s] 106) := ⟨_, rfl⟩
      have kW : Kp w1 W := by rw [hW]; exact (Kp.refl w1).alloc _
      have d0 : W.cell? ⟨w1.heap.size, 0, none⟩ = some (.int .i64 (i : Int)) := by rw [hW, World.cell?_alloc_at _ _ _ _ rfl]; rfl
      have d1 : W.cell? ⟨w1.heap.size, 1, none⟩ = some (.string s) := by rw [hW, World.cell?_alloc_at _ _ _ _ rfl]; rfl
      have hq := (H.out.kp kW).q
      rw [hW] at d0 d1 hq
      have HD0 := hid d0
      have HD1 := hid d1
      have HQ := hid hq
      have HW := hid hW
      have HKW := hid kW
      clear d0 d1 hq hW kW hm
      go_wp2_with (refine wpList_append_pc rfl _ _ rfl _ S.row rfl HQ.out w1.heap.size 1 (i, s) rfl HD0.out HD1.out hrl ?_)
      intro v' w3 q3 s3 g3
      rw [← HW.out] at s3
      have sp3 : Sp (Value.slice a n cc).ownBlock.toList w1 w3 := (HKW.out.sp _).trans s3
      have q3' : w3.ownsRow 0 106 2 v' (S.row ++ [(i, s)]).length (pcs (S.row ++ [(i, s)])) := by rw [List.length_append]; exact q3
      have g3' : ∀ g, v'.ownBlock = some g → (Value.slice a n cc).ownBlock = some g ∨ w1.heap.size ≤ g := fun g hg => by
        rcases g3 with h | h
        · left; rw [← h]; exact hg
        · right; rw [h] at hg; cases hg; omega
      have M3 := H.out.row sp3 v' (S.row ++ [(i, s)]) q3' (fun g hg => by
        rcases g3' g hg with h | h
        · exact H.out.n2 g h
        · have h1 := H.out.hr; have h2 := H.out.hg; exact ⟨by omega, by omega⟩) (fun p hp => by
        rcases List.mem_append.1 hp with h | h
        · exact H.out.fine.br p h
        · rw [List.mem_singleton.1 h]; exact ⟨hi, HS.out⟩)
      have S4 : Sp (rblk r gs (.slice a n cc)) w1 (w3.setCell ⟨r, 1, none⟩ v') := sp3.rq.trans ((Sp.refl [r] w3).set r 1 (by simp) _).rr
      have N4 : Nw w1 (rblk r gs (.slice a n cc)) (rblk r gs v') := fun t ht => by
        simp only [rblk, List.mem_cons] at ht
        rcases ht with rfl | rfl | ht
        · exact .inl (by simp [rblk])
        · exact .inl (by simp [rblk])
        · rcases g3' t (by simpa using ht) with h | h
          · exact .inl (by simp [rblk, h])
          · exact .inr h
      have c1' := sp3.held H.out.c1 (fun hm => (H.out.n2 r (by simpa using hm)).1 rfl)
      have z1' := (sp3.frozen H.out.hr (fun hm => (H.out.n2 r (by simpa using hm)).1 rfl) 1).trans (H.out.z 1)
      have ho : v'.oneCell' = true := by
        rcases q3.2 with ⟨rfl, _⟩ | ⟨g, c, cur, rfl, _⟩ <;> rfl
      obtain ⟨g', n', c', hv'⟩ : ∃ g' n' c', v' = .slice g' n' c' := by
        rcases q3.2 with ⟨rfl, _⟩ | ⟨g, c, cur, rfl, _⟩
        · exact ⟨_, _, _, rfl⟩
        · exact ⟨_, _, _, rfl⟩
      subst hv'
      obtain ⟨W4, hW4⟩ : ∃ W4, W4 = w3.setCell ⟨r, 1, none⟩ (.slice g' n' c') := ⟨_, rfl⟩
      rw [← hW4] at M3 S4
      have cc4 := M3.cn 1 (by omega)
      have zz4 := M3.z 4
      have HM3 := hid M3
      have HS4 := hid S4
      have HN4 := hid N4
      have HW4 := hid hW4
      have hwp := wrap_up (S.c 1)
      obtain ⟨C1, hC1⟩ : ∃ C1, C1 = wrap64 (S.c 1 + 1) := ⟨_, rfl⟩
      rw [← hC1] at hwp
      have HC1 := hid hC1
      simp only at cc4
      obtain ⟨C0, hC0⟩ : ∃ C0, C0 = S.c 1 := ⟨_, rfl⟩
      rw [← hC0] at cc4 hwp HC1
      have HC0 := hid hC0
      clear hC1 hC0 hW4 M3 S4 N4 q3 q3' g3 g3' s3 sp3 HD0 HD1 HQ HW HKW ho
      go_wp2_with fail
      rw [← HW4.out]
      clear HW4 c1' z1' c1
      go_region
      have M5 := (HM3.out.kp (Kp.refl W4).drew).count 1 (by omega)
      have S5 : Sp [r] W4 (W4.drew.setCell ⟨r, 3 + 1, none⟩ (.int .i64 C1)) := ((Kp.refl W4).drew.sp [r]).trans ((Sp.refl [r] _).set r _ (by simp) _)
      rw [show wrap64 ((⟨S.now, S.las, S.row ++ [(i, s)], S.dead, S.c⟩ : MS).c 1 + 1) = C1 from by rw [HC1.out, HC0.out]] at M5
      go_wp2
      go_ret
      refine ⟨rfl, gs, cap, _, ?_, HS4.out.trans S5.rr, HN4.out⟩
      exact ⟨M5.hr, M5.hg, M5.c0, M5.c1, M5.c2, M5.cn, M5.z, M5.s, M5.sz, M5.q, M5.k1, M5.k2, M5.n1, M5.n2, ⟨M5.fine.n1, M5.fine.n2, by simpa using M5.fine.nn, set_all M5.fine.bn i s HS.out, M5.fine.bl, M5.fine.br⟩⟩
    · have e1 : wrE S k s = 4 := by unfold wrE; rw [if_pos hE, if_neg hs]
      have e2 : wr S k s = S := by unfold wr; rw [e1]; rfl
      rw [e1, e2]
      have hs3 : ¬ (s.size : Int) = 64 := by omega
      clear hE hs e1 e2
      go_enter Try.func61, Try.ntmps61
      go_wp2_with fail
      refine hm.mono ?_
      rintro e w1 ⟨rfl, rfl⟩
      have hR : Rd w1 w1 r gs wv S := ⟨gs, cap, wv, h, Sp.refl _ _, Nw.refl _ _⟩
      clear h hm
      go_wp2
      go_ret
      exact ⟨rfl, hR⟩
  · have e1 : wrE S k s = rcE S k := if_neg hE
    have e2 : wr S k s = S := by unfold wr; rw [e1, if_neg hE]
    rw [e1, e2]
    obtain ⟨E, hEE⟩ : ∃ E, E = rcE S k := ⟨_, rfl⟩
    rw [← hEE] at hE hm ⊢
    have hE2 : (E == 0) = false := by simpa using hE
    clear hEE hE e1 e2
    go_enter Try.func61, Try.ntmps61
    go_wp2_with fail
    refine hm.mono ?_
    rintro e w1 ⟨rfl, rfl⟩
    have hR : Rd w1 w1 r gs wv S := ⟨gs, cap, wv, h, Sp.refl _ _, Nw.refl _ _⟩
    clear h hm
    go_wp2
    go_ret
    exact ⟨rfl, hR⟩

end Go.Proofs.Ytmklkdopmemfaaa
