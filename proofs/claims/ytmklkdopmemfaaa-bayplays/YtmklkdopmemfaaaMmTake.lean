/-
  Writes taken out of the row, in place. Conditions: that the member lies in memory; what the closure answers.
-/
import Derived.Test.YtmklkdopmemfaaaMmWrite
namespace Go.Proofs.Ytmklkdopmemfaaa
open Go.RowKit Plain
set_option linter.unusedVariables false

theorem heap_setCells (g : Nat) : ∀ (vs : List Value) (o : Nat) (w : World) (cur : Array Value) (t : TypeId) (fr : Nat × Nat), w.heap[g]? = some (.cells cur t fr) → ∃ cur', (w.setCells g o vs).heap[g]? = some (.cells cur' t fr) ∧ cur'.size = cur.size
  | [], _, _, cur, _, _, h => ⟨cur, h, rfl⟩
  | v :: r, o, w, cur, t, fr, h => by
    rw [World.setCells]
    have h1 : (w.setCell ⟨g, o, none⟩ v).heap[g]? = some (.cells (cur.setIfInBounds o v) t fr) := by
      rw [setCell_eq_setRow w g o cur t fr v h]
      exact setRow_heap w g cur _ t _ h
    obtain ⟨c, h2, h3⟩ := heap_setCells g r (o + 1) _ _ t fr h1
    exact ⟨c, h2, by rw [h3]; simp⟩
/-- the row under way: those kept lie in front; those from k on lie where they lay. -/
structure Tk (w : World) (g cap k : Nat) (row kept : List (Nat × ByteArray)) : Prop where
  h : ∃ cur, w.heap[g]? = some (.cells cur 112 (0, 0)) ∧ cur.size = cap * 65
  c1 : ∀ i, i < kept.length → w.rangeAt g (i * 65) (wc (kept.getD i (0, noS)))
  c2 : ∀ i, k ≤ i → i < row.length → w.rangeAt g (i * 65) (wc (row.getD i (0, noS)))
  z1 : ∀ p ∈ kept, p.2.size = 64
  z2 : ∀ p ∈ row, p.2.size = 64
theorem Tk.sp {w w' : World} {g cap k : Nat} {row kept : List (Nat × ByteArray)} (h : Tk w g cap k row kept) {T : List Nat} (q : Sp T w w') (hg : g ∉ T) : Tk w' g cap k row kept := by
  obtain ⟨cur, h1, h2⟩ := h.h
  exact ⟨⟨cur, (q.block g (Array.getElem?_eq_some_iff.1 h1).1 hg).trans h1, h2⟩, fun i hi => q.range (h.c1 i hi) hg, fun i h1 h2 => q.range (h.c2 i h1 h2) hg, h.z1, h.z2⟩
theorem Tk.there {w : World} {g cap k : Nat} {row kept : List (Nat × ByteArray)} (h : Tk w g cap k row kept) : w.there g 0 (cap * 65) := fun j hj => by
  obtain ⟨cur, h1, h2⟩ := h.h
  have hj2 : j < cur.size := by omega
  simp [World.cell?, World.frozen?, h1, hj2]
theorem Tk.skip {w : World} {g cap k : Nat} {row kept : List (Nat × ByteArray)} (h : Tk w g cap k row kept) : Tk w g cap (k + 1) row kept := ⟨h.h, h.c1, fun i h1 h2 => h.c2 i (by omega) h2, h.z1, h.z2⟩
theorem getD_app {l : List (Nat × ByteArray)} {p : Nat × ByteArray} (i : Nat) (h : i < l.length) : (l ++ [p]).getD i (0, noS) = l.getD i (0, noS) := by
  rw [List.getD_eq_getElem?_getD, List.getElem?_append_left h, ← List.getD_eq_getElem?_getD]
theorem getD_last {l : List (Nat × ByteArray)} {p : Nat × ByteArray} : (l ++ [p]).getD l.length (0, noS) = p := by
  rw [List.getD_eq_getElem?_getD, List.getElem?_append_right (Nat.le_refl _)]; simp
theorem Tk.put {w : World} {g cap k : Nat} {row kept : List (Nat × ByteArray)} (h : Tk w g cap k row kept) (p : Nat × ByteArray) (hp : p.2.size = 64) (hm : kept.length ≤ k) (hk : k < row.length) (hc : row.length ≤ cap) : Tk (w.setCells g (kept.length * 65) (wc p)) g cap (k + 1) row (kept ++ [p]) := by
  have hl : (wc p).length = 65 := by rw [wc_len, hp]
  refine ⟨?_, fun i hi => ?_, fun i h1 h2 => ?_, fun q hq => ?_, h.z2⟩
  · obtain ⟨cur, h1, h2⟩ := h.h
    obtain ⟨c, h3, h4⟩ := heap_setCells g (wc p) (kept.length * 65) w cur _ _ h1
    exact ⟨c, h3, by rw [h4, h2]⟩
  · rw [List.length_append, List.length_singleton] at hi
    by_cases e : i < kept.length
    · rw [getD_app i e]
      have hz := h.z1 (kept.getD i (0, noS)) (by rw [List.getD_eq_getElem?_getD, List.getElem?_eq_getElem e]; exact List.getElem_mem e)
      exact World.rangeAt_setCells_apart (h.c1 i e) g _ _ (.inr (.inl (by rw [wc_len, hz]; omega)))
    · obtain rfl : i = kept.length := by omega
      rw [getD_last]
      exact World.rangeAt_setCells_same w g _ _ (fun j hj => by
        have := h.there (kept.length * 65 + j) (by rw [hl] at hj; have : kept.length + 1 ≤ cap := by omega
                                                   have := Nat.mul_le_mul_right 65 this
                                                   omega)
        rwa [Nat.zero_add] at this)
  · exact World.rangeAt_setCells_apart (h.c2 i (by omega) h2) g _ _ (.inr (.inr (by rw [hl]; omega)))
  · rcases List.mem_append.1 hq with hq | hq
    · exact h.z1 q hq
    · rw [List.mem_singleton.1 hq]; exact hp
theorem tk_of {w : World} {g cap : Nat} {row : List (Nat × ByteArray)} (h : RowIn w (.slice (some ⟨g, 0, none⟩) row.length cap) row) : Tk w g cap 0 row [] := by
  rcases h.o.2 with ⟨h1, _⟩ | ⟨g', cap', cur, h1, _, hg, hn, hm, hcs, htake⟩
  · cases h1
  · simp only [Value.slice.injEq, Option.some.injEq, Addr.mk.injEq, and_true, true_and] at h1
    obtain ⟨rfl, rfl⟩ := h1
    refine ⟨⟨cur, hg, hcs⟩, fun i hi => absurd hi (by simp), fun i _ hi => ?_, fun p hp => (by cases hp), h.z⟩
    obtain ⟨g2, cap2, hv, _, _, _, hr⟩ := h.some (by omega)
    simp only [Value.slice.injEq, Option.some.injEq, Addr.mk.injEq, and_true, true_and] at hv
    obtain ⟨rfl, rfl⟩ := hv
    exact hr i hi
theorem Tk.row {w : World} {g cap k : Nat} {row kept : List (Nat × ByteArray)} (h : Tk w g cap k row kept) (hm : kept.length ≤ cap) (hc : cap ≤ maxLen) : RowIn w (.slice (some ⟨g, 0, none⟩) kept.length cap) kept := by
  obtain ⟨cur, h1, h2⟩ := h.h
  have hl := wcs_len kept h.z1
  refine ⟨⟨hl, .inr ⟨g, cap, cur, rfl, Nat.zero_le _, h1, hm, hc, h2, ?_⟩⟩, h.z1⟩
  have hsz : kept.length * 65 ≤ cur.size := by rw [h2]; exact Nat.mul_le_mul_right 65 hm
  apply List.ext_getElem?
  intro j
  by_cases hj : j < kept.length * 65
  · rw [List.getElem?_take_of_lt hj]
    have hi : j / 65 < kept.length := by omega
    have e : j = j / 65 * 65 + j % 65 := by omega
    have hz := h.z1 (kept.getD (j / 65) (0, noS)) (by rw [List.getD_eq_getElem?_getD, List.getElem?_eq_getElem hi]; exact List.getElem_mem hi)
    have hlen : j % 65 < (wc (kept.getD (j / 65) (0, noS))).length := by rw [wc_len, hz]; omega
    have h3 := wcs_at kept (j / 65) h.z1 hi (j % 65) _ (List.getElem?_eq_getElem hlen)
    have h4 := h.c1 (j / 65) hi (j % 65) _ (List.getElem?_eq_getElem hlen)
    rw [← e] at h3 h4
    rw [h3, ← h4]
    have hj2 : j < cur.size := by omega
    simp [World.cell?, h1, hj2]
  · rw [List.getElem?_eq_none (by rw [List.length_take]; omega), List.getElem?_eq_none (by omega)]
theorem size99 : (Try.prog.info? 112).map (·.size) = some 65 := by kernel_rfl
theorem wpList_append_tk {w : World} {ops : Array Oper} {rest : List Oper} {o : Oper} {a : Act} {Q : Exit → Act → World → Prop} (hgd : o.guard = none) (s x : Operand)
    (ho : o.op = .call { callee := .builtin .append, args := #[s, x], argTypes := #[99, 99] }) (g m cap N c : Nat) (p : Nat × ByteArray) (hp : p.2.size = 64) (hs : a.eval s = .slice (some ⟨g, 0, none⟩) m cap) (hx : a.eval x = .slice (some ⟨N, 0, none⟩) 1 c) (hr : w.rangeAt N 0 (wc p)) (ht : w.there g 0 (cap * 65)) (hm : m + 1 ≤ cap)
    (h : wpList Try.prog ops Q rest (a.put o.dst (.slice (some ⟨g, 0, none⟩) (m + 1) cap)) (w.setCells g (m * 65) (wc p))) : wpList Try.prog ops Q (o :: rest) a w := by
  obtain ⟨i, hi, hs0⟩ := Option.map_eq_some_iff.1 size99
  have hl : (wc p).length = 65 := by rw [wc_len, hp]
  have hh : ∀ j, j < (wc p).length → (w.cell? ⟨g, 0 + m * i.size + j, none⟩).isSome = true ∧ w.frozen? ⟨g, 0 + m * i.size + j, none⟩ = false := fun j hj => by
    rw [hs0]
    have := ht (m * 65 + j) (by rw [hl] at hj; have := Nat.mul_le_mul_right 65 hm; omega)
    rw [show 0 + (m * 65 + j) = 0 + m * 65 + j by omega] at this
    exact this
  have hrun := run_append_room_cells (P := Try.prog) w 99 o.type 112 i Try.underlying99 hi g 0 m cap ⟨N, 0, none⟩ 1 c (wc p) (by rw [hl, hs0]) (fun j u hu => by rw [Addr.add_mid]; exact hr j u hu) (wc_one p) hm (fun j hj => (hh j hj).1) (fun j hj => (hh j hj).2)
  rw [hs0, Nat.zero_add] at hrun
  refine wpList_plain hgd fun K hK' => ?_
  unfold Oper.wp
  simp [execOp, ho, resolve, invoke, builtin, hs, hx, hrun, Result.andThen]
  exact hK' _ _ h
theorem wpList_buildW {w : World} {ops : Array Oper} {rest : List Oper} {o : Oper} {a : Act} {Q : Exit → Act → World → Prop} (hgd : o.guard = none) (x : Operand) (ho : o.op = .buildSlice 99 1 #[(0, x)]) (p : Nat × ByteArray) (hz : p.2.size = 64) (hx : a.eval x = .agg (wc p).toArray)
    (h : ∀ N w', Kp w w' → w'.rangeAt N 0 (wc p) → w.heap.size ≤ N → wpList Try.prog ops Q rest (a.put o.dst (.slice (some ⟨N, 0, none⟩) 1 1)) w') : wpList Try.prog ops Q (o :: rest) a w :=
  wpList_plain hgd fun K hK' => wp_buildW x ho p hz hx (fun N w' h1 h2 h3 => hK' _ _ (h N w' h1 h2 h3))
set_option maxRecDepth 100000 in
set_option maxHeartbeats 2000000 in
theorem takeC {w : World} {b bn bl c : Nat} {rv : Value} {S : MS} {x y : Int} (h : MemIn w b bn bl rv S x y) (f : Nat → (Nat × ByteArray) → Bool)
    (hcl : ∀ (w' : World) (k : Nat) (p : Nat × ByteArray), k < S.row.length → Sp rv.ownBlock.toList w w' → p.2.size = 64 → Calls Try.prog 78 #[.int .i64 (k : Int), .agg (wc p).toArray, .pointer (some ⟨c, 0, none⟩)] w' fun e w'' => e = .returned (.bool (!f k p)) ∧ Kp w' w'') :
    Calls Try.prog 77 #[.pointer (some ⟨b, 0, none⟩), .func (.func 78) #[] #[.pointer (some ⟨c, 0, none⟩)]] w fun e w' => e = .returned (.tuple #[]) ∧ ∃ rv', MemIn w' b bn bl rv' ⟨S.now, S.las, tk f 0 S.row, S.dead, S.c⟩ x y ∧ Sp (blk b bn bl rv) w w' ∧ Nw w (blk b bn bl rv) (blk b bn bl rv') := by
  obtain ⟨a, cap, rfl, hn1, hn2⟩ := h.rw.len
  obtain ⟨n, hn⟩ : ∃ n, n = S.row.length := ⟨_, rfl⟩
  rw [← hn] at h hn1 hcl ⊢
  have HN : Hid (n = S.row.length) := hn
  have cR := h.cR
  have hcp : cap ≤ maxLen := by unfold maxLen; omega
  have HH := hid h
  have HCL := hid hcl
  clear hn h hcl
  by_cases hn0 : n = 0
  · have hrow : S.row = [] := List.eq_nil_of_length_eq_zero (by rw [← HN.out]; exact hn0)
    subst hn0
    have z12 := HH.out.z 12
    go_enter Try.func77, Try.ntmps77
    have hsl : ∀ W : World, (Instr.slice 99 (.slice a 0 cap) none (some (.int .i64 0)) none).run Try.prog W = .ok (.slice a 0 cap) W := fun W => by
      cases a with
      | none => simp [Instr.slice, go_sem]
      | some q => simp [Instr.slice, go_sem]
    go_wp2_with fail
    refine wp_loop_rounds 1 ?_
    rw [rounds_succ]
    go_wp2
    go_end0
    have M := HH.out.row (Sp.refl _ _) (.slice a 0 cap) S.row HH.out.rw HH.out.n4 (fun p hp => (HH.out.fine.br p hp).1)
    refine ⟨rfl, _, ?_, ((Sp.refl [b] w).set b 12 (by simp) _).b, Nw.refl _ _⟩
    rw [show tk f 0 S.row = S.row by rw [hrow]; rfl]
    exact M
  · have h0 : 0 < S.row.length := by rw [← HN.out]; omega
    obtain ⟨g, cap', hv, _, _, _, _⟩ := HH.out.rw.some h0
    obtain rfl : a = some ⟨g, 0, none⟩ := by simp only [Value.slice.injEq] at hv; exact hv.1
    have hgb : g ≠ b ∧ g ≠ bn ∧ g ≠ bl := HH.out.n4 g rfl
    have hgl : g < w.heap.size := HH.out.low g (by simp [blk, Value.ownBlock])
    have TK0 := hid (tk_of (by have := HH.out.rw; rw [HN.out] at this; exact this) : Tk w g cap 0 S.row [])
    have HG := hid hgb
    have hsl : ∀ W : World, (Instr.slice 99 (.slice (some ⟨g, 0, none⟩) n cap) none (some (.int .i64 0)) none).run Try.prog W = .ok (.slice (some ⟨g, 0, none⟩) 0 cap) W := fun W => by
      simp [Instr.slice, go_sem]
    clear hv hgb
    go_enter Try.func77, Try.ntmps77
    go_wp2_with fail
    go_loopw [4, 17] (fun v i wr => ∃ k m : Nat, k ≤ n ∧ m ≤ k ∧ i = .int .i64 k ∧ v = .slice (some ⟨g, 0, none⟩) m cap ∧ Hid (m = (tk f 0 (S.row.take k)).length) ∧ Hid (Tk wr g cap k S.row (tk f 0 (S.row.take k))) ∧ Hid (Sp [g] w wr)) (fun _ i _ => n - (intOf i).toNat)
    case atStart => exact ⟨0, 0, by omega, by omega, by go_num, rfl, rfl, TK0, Sp.refl _ _⟩
    case round =>
      clear hsl cR TK0
      obtain ⟨k, m, hk, hmk, rfl, rfl, HM, HT, HS⟩ := hrel
      by_cases hlt : k < n
      · have hks : k < S.row.length := by rw [← HN.out]; exact hlt
        have hpt := tk_take f S.row k hks
        have hr := HT.out.c2 k (Nat.le_refl _) hks
        have hp2 := HT.out.z2 (S.row.getD k (0, noS)) (by rw [List.getD_eq_getElem?_getD, List.getElem?_eq_getElem hks]; exact List.getElem_mem hks)
        obtain ⟨p, hp⟩ : ∃ p, p = S.row.getD k (0, noS) := ⟨_, rfl⟩
        rw [← hp] at hr hpt hp2
        have HP := hid hpt
        have HR := hid hr
        clear hp hpt hr
        go_wp2_with (first | refine wpList_load_w rfl _ rfl g (k * 65) rfl p hp2 HR.out ?_ | refine wpList_store_new rfl _ _ rfl p hp2 _ rfl rfl rfl ?_)
        intro w2 k2 V2 hl2
        obtain ⟨K, hKK⟩ : ∃ K, K = wr.heap.size := ⟨_, rfl⟩
        rw [← hKK] at V2 hl2 ⊢
        have hgK : g ≠ K := by have := HS.out.size; omega
        have HT2 := hid (HT.out.sp (k2.sp []) (by simp))
        have HS2 := hid (HS.out.trans (k2.sp _))
        have HV2 := hid V2
        have HR2 := hid V2.r
        have hwK : w.heap.size ≤ K := by have := HS.out.size; omega
        clear hKK HT HS HR k2 V2
        go_wp2_with (refine wpList_load_w rfl _ rfl K 0 rfl p hp2 HR2.out ?_)
        refine (HCL.out w2 k p hlt (by simpa [Value.ownBlock] using HS2.out) hp2).mono ?_
        rintro e w3 ⟨rfl, k3⟩
        have HT3 := hid (HT2.out.sp (k3.sp []) (by simp))
        have HS3 := hid (HS2.out.trans (k3.sp _))
        have HV3 := hid (HV2.out.sp (k3.sp []) (by simp))
        have HR3 := hid HV3.out.r
        clear HT2 HS2 HV2 HR2 k3
        cases hf : f k p with
        | false =>
          rw [hf] at HP
          have HP2 : Hid (tk f 0 (S.row.take (k + 1)) = tk f 0 (S.row.take k)) := hid (by have := HP.out; simpa using this)
          clear HP hf HCL
          go_wp2
          go_roundw
          case rel => exact ⟨k + 1, m, by omega, by omega, by go_num, rfl, by rw [HP2.out]; exact HM, by rw [HP2.out]; exact HT3.out.skip, HS3⟩
          case measure => simp [intOf]; omega
        | true =>
          rw [hf] at HP
          have HP2 : Hid (tk f 0 (S.row.take (k + 1)) = tk f 0 (S.row.take k) ++ [p]) := hid (by have := HP.out; simpa using this)
          clear HP hf HCL
          go_wp2_with (first | refine wpList_load_w rfl _ rfl K 0 rfl p hp2 HR3.out ?_ | refine wpList_buildW rfl _ rfl p hp2 rfl ?_)
          intro N w4 k4 hN hNl
          have hT4 := HT3.out.sp (k4.sp []) (by simp)
          have HTH := hid hT4.there
          have HRN := hid hN
          have hgN : g ∉ [K] := by simpa using hgK
          have hmc : m + 1 ≤ cap := by omega
          have HT5 : Hid (Tk (w4.setCells g (m * 65) (wc p)) g cap (k + 1) S.row (tk f 0 (S.row.take (k + 1)))) := by
            rw [HP2.out, HM.out]
            exact hT4.put p hp2 (by rw [← HM.out]; exact hmk) hks (by rw [← HN.out]; exact hn1)
          have HS5 : Hid (Sp [g] w (w4.setCells g (m * 65) (wc p))) := Sp.setCells g (by simp) _ _ _ (HS3.out.trans (k4.sp _))
          have HM5 : Hid (m + 1 = (tk f 0 (S.row.take (k + 1))).length) := by rw [HP2.out, HM.out]; simp [Hid]
          obtain ⟨w5, hw5⟩ : ∃ w5, w5 = w4.setCells g (m * 65) (wc p) := ⟨_, rfl⟩
          rw [← hw5] at HT5 HS5
          have HW5 := hid hw5
          clear hw5 hT4 hN k4 HT3 HS3 HV3 HR3 HP2 HM
          go_wp2_with (refine wpList_append_tk rfl _ _ rfl g m cap N 1 p hp2 rfl rfl HRN.out HTH.out hmc ?_)
          rw [← HW5.out]
          clear HW5 HTH HRN
          go_wp2
          go_roundw
          case rel => exact ⟨k + 1, m + 1, by omega, by omega, by go_num, by go_num, HM5, HT5, HS5⟩
          case measure => simp [intOf]; omega
      · obtain rfl : k = n := by omega
        have hall : S.row.take k = S.row := by rw [HN.out, List.take_length]
        rw [hall] at HM HT
        have cR := HS.out.held HH.out.cR (show b ∉ [g] by simpa using HG.out.1.symm)
        have z12 := (HS.out.frozen HH.out.hb (show b ∉ [g] by simpa using HG.out.1.symm) 12).trans (HH.out.z 12)
        have hmm : (tk f 0 S.row).length ≤ cap := by have := tk_len f S.row 0; have := HN.out; omega
        have hrow : RowIn wr (.slice (some ⟨g, 0, none⟩) m cap) (tk f 0 S.row) := by rw [HM.out]; exact HT.out.row hmm hcp
        have M := HH.out.row (w' := wr) (by simpa [Value.ownBlock] using HS.out) (.slice (some ⟨g, 0, none⟩) m cap) (tk f 0 S.row) hrow (fun q hq => by cases hq; exact HG.out) (fun p hp => (HH.out.fine.br p (tk_mem f S.row 0 p hp)).1)
        have SP : Sp (blk b bn bl (.slice (some ⟨g, 0, none⟩) k cap)) w (wr.setCell ⟨b, 12, none⟩ (.slice (some ⟨g, 0, none⟩) m cap)) := (HS.out.mono (fun t ht => by simp at ht; subst ht; simp [blk, Value.ownBlock])).trans ((Sp.refl [b] wr).set b 12 (by simp) _).b
        clear HS HT HM HCL hrow
        go_wp2
        go_end0
        exact ⟨rfl, _, M, SP, fun t ht => .inl (by simpa [blk, Value.ownBlock] using ht)⟩

end Go.Proofs.Ytmklkdopmemfaaa
