/-
  Contract of the document's out: the key at a place doesn't wait any more. Conditions: that the object lies in memory as RL says, that there is the place.
-/
import Derived.Test.YtcmomebjkbhboaaLfRAdd
namespace Go.Proofs.Ytcmomebjkbhboaa
open Go.RowKit Plain
set_option linter.unusedVariables false

theorem era_same (l : List Int) (i : Nat) : (l.take i).eraseIdx i = l.take i := List.eraseIdx_of_length_le (by rw [List.length_take]; omega)
theorem era_next {l : List Int} {i at' : Nat} (h : i < l.length) (hne : i ≠ at') : (l.take (i + 1)).eraseIdx at' = (l.take i).eraseIdx at' ++ [l.getD i 0] := by
  have hl : (l.take i).length = i := by rw [List.length_take]; omega
  have e : l.take (i + 1) = l.take i ++ [l.getD i 0] := by rw [List.take_add_one, List.getElem?_eq_getElem h, List.getD_eq_getElem?_getD, List.getElem?_eq_getElem h]; rfl
  rw [e]
  by_cases hlt : at' < i
  · rw [List.eraseIdx_append_of_lt_length (by omega)]
  · rw [List.eraseIdx_append_of_length_le (by omega), List.eraseIdx_of_length_le (l := l.take i) (by omega), hl]
    congr 1
    exact List.eraseIdx_of_length_le (by simp; omega)
theorem era_at {l : List Int} {i : Nat} (h : i < l.length) : (l.take (i + 1)).eraseIdx i = (l.take i).eraseIdx i := by
  have hl : (l.take i).length = i := by rw [List.length_take]; omega
  have e : l.take (i + 1) = l.take i ++ [l.getD i 0] := by rw [List.take_add_one, List.getElem?_eq_getElem h, List.getD_eq_getElem?_getD, List.getElem?_eq_getElem h]; rfl
  rw [e, List.eraseIdx_append_of_length_le (by omega), hl, Nat.sub_self, era_same]
  simp
theorem OwnI.mono {w : World} {base base' : Nat} {v : Value} {l : List Int} (h : OwnI w base v l) (hb : base' ≤ base) : OwnI w base' v l := by
  rcases h.2 with ⟨h', h0⟩ | ⟨g, cap, cur, h', hg, hr⟩
  · exact ⟨h.1, .inl ⟨h', h0⟩⟩
  · exact ⟨h.1, .inr ⟨g, cap, cur, h', Nat.le_trans hb hg, hr⟩⟩
/-- two rows of the call's own, apart. -/
def Two (w0 w : World) (p q : Value) (lp lq : List Int) : Prop := OwnI w w0.heap.size p lp ∧ OwnI w w0.heap.size q lq ∧ (∀ g, p.ownBlock = some g → q.ownBlock ≠ some g) ∧ Kp w0 w
theorem Two.nil (w : World) : Two w w (.slice none 0 0) (.slice none 0 0) [] [] := ⟨OwnI.nil _ _, OwnI.nil _ _, by simp [Value.ownBlock], Kp.refl w⟩
theorem Two.kp {w0 w w' : World} {p q : Value} {lp lq : List Int} (h : Two w0 w p q lp lq) (k : Kp w w') : Two w0 w' p q lp lq := ⟨h.1.kept k, h.2.1.kept k, h.2.2.1, h.2.2.2.trans k⟩
theorem Two.fst {w0 w w' : World} {p q p' : Value} {lp lq lp' : List Int} (h : Two w0 w p q lp lq) (hg : w.grownBy w' p.ownBlock) (ho : OwnI w' w0.heap.size p' lp') (hr : p'.ownBlock = p.ownBlock ∨ p'.ownBlock = some w.heap.size) : Two w0 w' p' q lp' lq := by
  have s := grown_sp hg
  refine ⟨ho, h.2.1.spx s (fun g hq e => h.2.2.1 g (by simpa using e) hq), fun g hp hq => ?_, h.2.2.2.grown hg (fun g hp => (h.1.lt g hp).1)⟩
  rcases hr with hr | hr
  · exact h.2.2.1 g (by rw [← hr]; exact hp) hq
  · rw [hr] at hp
    have := (h.2.1.lt g hq).2
    have := Option.some.inj hp
    omega
theorem Two.snd {w0 w w' : World} {p q q' : Value} {lp lq lq' : List Int} (h : Two w0 w p q lp lq) (hg : w.grownBy w' q.ownBlock) (ho : OwnI w' w0.heap.size q' lq') (hr : q'.ownBlock = q.ownBlock ∨ q'.ownBlock = some w.heap.size) : Two w0 w' p q' lp lq' := by
  have s := grown_sp hg
  refine ⟨h.1.spx s (fun g hp e => h.2.2.1 g hp (by simpa using e)), ho, fun g hp hq => ?_, h.2.2.2.grown hg (fun g hq => (h.2.1.lt g hq).1)⟩
  rcases hr with hr | hr
  · exact h.2.2.1 g hp (by rw [← hr]; exact hq)
  · rw [hr] at hq
    have := (h.1.lt g hp).2
    have := Option.some.inj hq
    omega
set_option maxRecDepth 100000 in
set_option maxHeartbeats 4000000 in
theorem rout_any {w0 w : World} {a : Nat} {T : List Nat} {g h : Int} {lk lw : List Int} (H : RL w0 w a T g h lk lw) (hle : lk.length = lw.length) (hl : lk.length ≤ 1000) (i : Nat) : Calls Try.prog 24 #[.pointer (some ⟨a, 0, none⟩), .int .i64 i] w fun e w' => (∃ v, e = .returned v) ∧ Nz (fun w0 w a T (S : List Int × List Int) => RL w0 w a T g h S.1 S.2) w0 w w' a T (lk.eraseIdx i, lw.eraseIdx i) := by
  obtain ⟨pk, gk, ck, pw, gw, cw, hpk, hpw, hk1, hk2, hw1, hw2, c0, c1, c2, c3, fz, hck, hcw⟩ := H.cells
  obtain ⟨n, hn⟩ : ∃ n, n = lk.length := ⟨_, rfl⟩
  rw [← hle] at hpw hw1 c3 hcw
  rw [← hn] at hpk hpw hk1 hw1 c2 c3 hck hcw hl
  have HN : Hid (n = lk.length ∧ n = lw.length) := ⟨hn, by rw [hn]; exact hle⟩
  have HC : Hid ((∀ j, j < n → w.cell? ⟨gk, j, none⟩ = some (.int .i64 (lk.getD j 0))) ∧ ∀ j, j < n → w.cell? ⟨gw, j, none⟩ = some (.int .i64 (lw.getD j 0))) := ⟨hck, hcw⟩
  have HP : Hid ((0 < n → pk = some ⟨gk, 0, none⟩) ∧ (0 < n → pw = some ⟨gw, 0, none⟩)) := ⟨hpk, hpw⟩
  have HX := hid H
  have HA : Hid (w.cell? ⟨a, 2, none⟩ = some (.slice pk n ck) ∧ w.cell? ⟨a, 3, none⟩ = some (.slice pw n cw)) := ⟨c2, c3⟩
  have H0 : Hid (Two w w (.slice none 0 0) (.slice none 0 0) ((lk.take 0).eraseIdx i) ((lw.take 0).eraseIdx i)) := Two.nil w
  clear H hle hn hpk hpw hck hcw c0 c1 c2 c3 fz
  go_enter Try.func24, Try.ntmps24
  go_wp2
  go_loopw [4, 5, 6] (fun p q x wr => ∃ (j : Nat) (p' q' : Value), x = .int .i64 j ∧ p' = p ∧ q' = q ∧ j ≤ n ∧ Hid (Two w wr p' q' ((lk.take j).eraseIdx i) ((lw.take j).eraseIdx i))) (fun _ _ x _ => n - (intOf x).toNat)
  case atStart => exact ⟨0, _, _, rfl, rfl, rfl, by omega, H0⟩
  case round =>
    clear H0
    obtain ⟨j, p, q, rfl, rfl, rfl, hj, HT⟩ := hrel
    have c2 := HT.out.2.2.2.held HA.out.1
    by_cases hjn : j < n
    · obtain rfl := HP.out.1 (by omega)
      obtain rfl := HP.out.2 (by omega)
      have d0 := HT.out.2.2.2.held (HC.out.1 j hjn)
      have d1 := HT.out.2.2.2.held (HC.out.2 j hjn)
      have c3 := HT.out.2.2.2.held HA.out.2
      have hjn2 : (j : Int) < (n : Int) := by omega
      have hjl : j < lk.length := by have := HN.out.1; omega
      have hjw : j < lw.length := by have := HN.out.2; omega
      by_cases hji : j = i
      · have hd : ((j : Int) == (i : Int)) = true := by simp [hji]
        have HT2 : Hid (Two w wr p q ((lk.take (j + 1)).eraseIdx i) ((lw.take (j + 1)).eraseIdx i)) := by
          have q0 := HT.out
          rw [hji] at hjl hjw q0 ⊢
          rw [era_at hjl, era_at hjw]
          exact q0
        clear hji HT
        go_wp2
        go_roundw
        case rel => exact ⟨j + 1, _, _, by go_num, rfl, rfl, by omega, HT2⟩
        case measure => simp [intOf]; omega
      · have hd : ((j : Int) == (i : Int)) = false := by simp; omega
        have HE : Hid ((lk.take (j + 1)).eraseIdx i = (lk.take j).eraseIdx i ++ [lk.getD j 0] ∧ (lw.take (j + 1)).eraseIdx i = (lw.take j).eraseIdx i ++ [lw.getD j 0]) := ⟨era_next hjl hji, era_next hjw hji⟩
        have HLn : Hid (((lk.take j).eraseIdx i).length ≤ 1000 ∧ ((lw.take j).eraseIdx i).length ≤ 1000) := by
          refine ⟨?_, ?_⟩
          · have := List.length_eraseIdx_le (lk.take j) i; rw [List.length_take] at this; omega
          · have := List.length_eraseIdx_le (lw.take j) i; rw [List.length_take] at this; omega
        obtain ⟨x, hx⟩ : ∃ x, x = lk.getD j 0 := ⟨_, rfl⟩
        obtain ⟨y, hy⟩ : ∃ y, y = lw.getD j 0 := ⟨_, rfl⟩
        rw [← hx] at d0 HE
        rw [← hy] at d1 HE
        have HY := hid hy
        clear hx hy hji
        go_upto_region 6 with (at_builtin; refine wpList_append_int2 rfl _ _ rfl w.heap.size _ ((lk.take j).eraseIdx i) rfl (HT.out.1.alloc _) x _ rfl (by rw [World.cell?_alloc_at _ _ _ _ rfl]; rfl) (by have := HLn.out; omega) (by have := HT.out.2.2.2.size; simp; omega) ?_; intro u2 w2 ho2 hg2 hr2; have HT1 := hid ((HT.out.kp ((Kp.refl wr).alloc (.cells #[.int .i64 x] 3))).fst hg2 ho2 hr2); have c3 := HT1.out.2.2.2.held HA.out.2; have d1 := HT1.out.2.2.2.held (HC.out.2 j hjn); rw [← HY.out] at d1; clear ho2 hg2 hr2)
        go_wp2_with (at_builtin; refine wpList_append_int2 rfl _ _ rfl w.heap.size _ ((lw.take j).eraseIdx i) rfl (HT1.out.2.1.alloc _) y _ rfl (by rw [World.cell?_alloc_at _ _ _ _ rfl]; rfl) (by have := HLn.out; omega) (by have := HT1.out.2.2.2.size; simp; omega) ?_; intro u3 w3 ho3 hg3 hr3; have HT2 := hid ((HT1.out.kp ((Kp.refl w2).alloc (.cells #[.int .i64 y] 3))).snd hg3 ho3 hr3); clear ho3 hg3 hr3)
        have HT3 : Hid (Two w w3 u2 u3 ((lk.take (j + 1)).eraseIdx i) ((lw.take (j + 1)).eraseIdx i)) := by rw [HE.out.1, HE.out.2]; exact HT2.out
        clear HT2 HT1 HT HE HY HLn
        go_roundw
        case rel => exact ⟨j + 1, _, _, by go_num, rfl, rfl, by omega, HT3⟩
        case measure => simp [intOf]; omega
    · obtain rfl : j = n := by omega
      have hT1 : lk.take j = lk := List.take_of_length_le (by have := HN.out.1; omega)
      have hT2 : lw.take j = lw := List.take_of_length_le (by have := HN.out.2; omega)
      have hq := HT.out
      rw [hT1, hT2] at hq
      obtain ⟨q1, q2, q3, q4⟩ := hq
      obtain ⟨pp1, pn1, pc1, rfl⟩ := q1.slc
      obtain ⟨pp2, pn2, pc2, rfl⟩ := q2.slc
      obtain ⟨vk, vw, eT, h1, h2, h3, h4, h5, h6, h7, h8⟩ := HX.out.kept q4
      have c2' := cell_of h1 2
      have f2 := frozen_of h1 2
      have g1 := heap_set h1 2 (.slice pp1 pn1 pc1)
      have f3 := frozen_of g1 3
      have c3' := cell_of g1 3
      have hb1 : ∀ x, (Value.slice pp1 pn1 pc1).ownBlock = some x → w.heap.size ≤ x := fun x hx => (q1.lt x hx).1
      have hb2 : ∀ x, (Value.slice pp2 pn2 pc2).ownBlock = some x → w.heap.size ≤ x := fun x hx => (q2.lt x hx).1
      have haw : a < w.heap.size := by have := (HX.out.low a (by obtain ⟨_, _, rfl, _⟩ := HX.out; simp)).1; exact this
      have hw0 : w0.heap.size ≤ w.heap.size := by obtain ⟨_, _, _, _, _, _, _, _, _, _, h⟩ := HX.out; exact h
      have HE : Hid (RL w0 ((wr.setCell ⟨a, 2, none⟩ (.slice pp1 pn1 pc1)).setCell ⟨a, 3, none⟩ (.slice pp2 pn2 pc2)) a (a :: ((Value.slice pp1 pn1 pc1).ownBlock.toList ++ (Value.slice pp2 pn2 pc2).ownBlock.toList)) g h (lk.eraseIdx i) (lw.eraseIdx i) ∧ Sp T w ((wr.setCell ⟨a, 2, none⟩ (.slice pp1 pn1 pc1)).setCell ⟨a, 3, none⟩ (.slice pp2 pn2 pc2)) ∧ Nw w T (a :: ((Value.slice pp1 pn1 pc1).ownBlock.toList ++ (Value.slice pp2 pn2 pc2).ownBlock.toList))) := by
        have s1 : Sp [a] wr ((wr.setCell ⟨a, 2, none⟩ (.slice pp1 pn1 pc1)).setCell ⟨a, 3, none⟩ (.slice pp2 pn2 pc2)) := ((Sp.refl [a] wr).set a 2 (by simp) (.slice pp1 pn1 pc1)).set a 3 (by simp) (.slice pp2 pn2 pc2)
        have hne : ∀ x v, (v : Value).ownBlock = some x → w.heap.size ≤ x → x ∉ [a] := fun x v _ hx e => by simp at e; omega
        refine ⟨⟨.slice pp1 pn1 pc1, .slice pp2 pn2 pc2, rfl, heap_set g1 3 (.slice pp2 pn2 pc2), h2, ?_, ?_, fun e => by have := hb1 a e; omega, fun e => by have := hb2 a e; omega, q3, Nat.le_trans h8 s1.size⟩, ?_, fun t ht => ?_⟩
        · have := q1.spx s1 (fun x hx => hne x _ hx (hb1 x hx))
          exact this.mono hw0
        · have := q2.spx s1 (fun x hx => hne x _ hx (hb2 x hx))
          exact this.mono hw0
        · exact (q4.sp T).trans (s1.mono (fun t ht => by simp at ht; subst ht; rw [eT]; simp))
        · rcases List.mem_cons.1 ht with rfl | ht
          · exact .inl (by rw [eT]; simp)
          · rcases List.mem_append.1 ht with ht | ht
            · exact .inr (hb1 t (by simpa using ht))
            · exact .inr (hb2 t (by simpa using ht))
      clear hT1 hT2 q1 q2 q3 q4 eT h1 h2 h3 h4 h5 h6 h7 h8 g1 hb1 hb2 haw hw0 HT
      go_wp2
      go_end0
      exact ⟨⟨_, rfl⟩, _, HE.out.1, HE.out.2.1, HE.out.2.2⟩

end Go.Proofs.Ytcmomebjkbhboaa
