/-
  Contracts of a cache's inner calls: find, refuses, forget, place, use. Conditions: that the object lies in memory as CB says, as caches come; that a stripe is an int.
-/
import Derived.Test.YtncdidklgpmefaaDoorCaMap
import Derived.Deep.CutBlock
import Derived.Deep.RegionWith
namespace Go.Proofs.YtncdidklgpmefaaDoor
open Go.RowKit Plain Go.Maps Go.WideMaps
set_option linter.unusedVariables false

section
variable {w0 w w1 w2 w3 : World} {c mb tb q : Nat} {A : Int → Nat} {C : CS} {X : List Nat}
theorem at_in {S : TS} {A : Int → Nat} {k : Int} (h : inT S k = true) : atF S A k = some (A k) := if_pos h
theorem at_out {S : TS} {A : Int → Nat} {k : Int} (h : inT S k = false) : atF S A k = none := by unfold atF; rw [h]; rfl
theorem at_is (S : TS) (A : Int → Nat) (k : Int) : (atF S A k).isSome = inT S k := by
  cases h : inT S k with
  | true => rw [at_in h]; rfl
  | false => rw [at_out h]; rfl
theorem lenA {α : Type} (P D : List α) : (P ++ D).length = P.length + D.length := List.length_append
/-- a stripe gone: its key dropped, its entry deleted. -/
theorem CB.gone (h : CB w0 w c mb tb A q C X) {v : Int} {n : Nat} {D : DataW Unit} (hv : inT C.S v = true) (u : Tu w0 w1 tb (drS C.S v) (c :: mb :: ((C.S.P ++ C.S.D).map A ++ X))) (l : Lk (c :: mb :: ((C.S.P ++ C.S.D).map A ++ X)) w w1) (s : Sp [mb] w1 w2) (hn : n ≤ q) (m : MpP w2 mb n (C.S.P.length + C.S.D.length - 1) (fun j => if j = v then none else atF C.S A j) D) : CB w0 w2 c mb tb A q { C with S := drS C.S v, H := upH C.H v hd0 } X ∧ Lk X w w2 := by
  have hg := h.tu.g
  have hk := dr_keys hg (in_iff.1 hv)
  have hin : ∀ k, inT (drS C.S v) k = true → inT C.S k = true ∧ k ≠ v := fun k e => by
    have := (hk k).1 (in_iff.1 e)
    exact ⟨in_iff.2 this.1, this.2⟩
  have hb : ∀ x, x ∈ c :: mb :: ((C.S.P ++ C.S.D).map A ++ X) → x ≠ mb → w2.heap[x]? = w.heap[x]? := fun x hx hne => by
    have h5 : x < w1.heap.size := by obtain ⟨_, _, _, _, h5⟩ := u; exact (h5 x hx).2
    exact (s.block x h5 (by simpa using hne)).trans (l x hx)
  have hl := dr_few hg (in_iff.1 hv)
  refine ⟨⟨(u.sp s (fun t ht => by simp at ht; subst ht; exact ⟨by simp, h.bm⟩)).less (fun x hx => ?_), (hb c (by simp) h.cm).trans h.h, ⟨n, D, hn, ?_⟩, fun k e => ?_, h.bc, h.bm, fun k e => h.ba k (hin k e).1, h.cm, fun k e => h.ac k (hin k e).1, fun j k ej ek => h.aa j k (hin j ej).1 (hin k ek).1, fun x hx => ⟨(h.xs x hx).1, (h.xs x hx).2.1, fun k e => (h.xs x hx).2.2 k (hin k e).1⟩⟩, fun x hx => hb x (h.inX hx) (h.xs x hx).2.1⟩
  · rcases List.mem_cons.1 hx with rfl | hx
    · simp
    · rcases List.mem_cons.1 hx with rfl | hx
      · simp
      · rcases List.mem_append.1 hx with hx | hx
        · obtain ⟨k, hk2, rfl⟩ := List.mem_map.1 hx
          exact h.inA (hin k (in_iff.2 hk2)).1
        · exact h.inX hx
  · show MpP w2 mb n ((drS C.S v).P.length + (drS C.S v).D.length) (atF (drS C.S v) A) D
    have e1 : (drS C.S v).P.length + (drS C.S v).D.length = C.S.P.length + C.S.D.length - 1 := by omega
    have e2 : atF (drS C.S v) A = fun j => if j = v then none else atF C.S A j := funext fun j => by
      by_cases e : j = v
      · rw [if_pos e]
        exact at_out (by
          cases e3 : inT (drS C.S v) j with
          | false => rfl
          | true => exact absurd e (hin j e3).2)
      · rw [if_neg e]
        unfold atF
        have : inT (drS C.S v) j = inT C.S j := by
          cases e3 : inT C.S j with
          | true => exact in_iff.2 ((hk j).2 ⟨in_iff.1 e3, e⟩)
          | false => exact in_not.2 (fun hm => in_not.1 e3 ((hk j).1 hm).1)
        rw [this]
    rw [e1, e2]
    exact m
  · show Cl w2 (A k) 72 (hc (upH C.H v hd0 k))
    have e2 := hin k e
    rw [upH_off _ _ e2.2]
    exact (h.a k e2.1).blk (hb (A k) (h.inA e2.1) (h.ac k e2.1).2)
/-- a stripe added: its own new block, its entry, its key. -/
theorem CB.grow (h : CB w0 w c mb tb A q C X) {k : Int} {q' n B : Nat} {D : DataW Unit} (he : adE C.S k = 0) (hH : C.H k = hd0) (kw : Kp w w1) (hB : w.heap.size ≤ B) (hC : Cl w1 B 72 (hc hd0)) (s : Sp [mb] w1 w2) (hn : n ≤ q') (m : MpP w2 mb n (C.S.P.length + C.S.D.length + 1) (fun j => if j = k then some B else atF C.S A j) D) (u : Tu w0 w3 tb (adS C.S k) (B :: c :: mb :: ((C.S.P ++ C.S.D).map A ++ X))) (l : Lk (B :: c :: mb :: ((C.S.P ++ C.S.D).map A ++ X)) w2 w3) :
    CB w0 w3 c mb tb (fun i => if i = k then B else A i) q' { C with S := adS C.S k } X ∧ Lk X w w3 := by
  have hk := ad_keys he
  have hkn : inT C.S k = false := in_not.2 (ad_iff.1 he).1
  have hin : ∀ j, inT (adS C.S k) j = true → j = k ∨ inT C.S j = true := fun j e => by
    rcases (hk j).1 (in_iff.1 e) with rfl | e
    · exact .inl rfl
    · exact .inr (in_iff.2 e)
  have h5 : ∀ x, x ∈ c :: mb :: ((C.S.P ++ C.S.D).map A ++ X) → x < w.heap.size := by obtain ⟨_, _, _, _, h5⟩ := h.tu; exact fun x hx => (h5 x hx).2
  have hb : ∀ x, x ∈ c :: mb :: ((C.S.P ++ C.S.D).map A ++ X) → x ≠ mb → w3.heap[x]? = w.heap[x]? := fun x hx hne =>
    (l x (List.mem_cons_of_mem _ hx)).trans ((s.block x (Nat.lt_of_lt_of_le (h5 x hx) kw.size) (by simpa using hne)).trans (kw.block x (h5 x hx)))
  have hcl := h5 c (by simp)
  have hml := h5 mb (by simp)
  have hBm : B ≠ mb := by omega
  have hg : ∀ j, inT C.S j = true → (if j = k then B else A j) = A j := fun j e => if_neg (fun e2 => by rw [e2, hkn] at e; cases e)
  have hAl : ∀ j, inT C.S j = true → A j < w.heap.size := fun j e => h5 _ (h.inA e)
  have hw0 : w0.heap.size ≤ w.heap.size := h.tu.k.size
  refine ⟨⟨u.less (fun x hx => ?_), (hb c (by simp) h.cm).trans h.h, ⟨n, D, hn, ?_⟩, fun j e => ?_, h.bc, h.bm, fun j e => ?_, h.cm, fun j e => ?_, fun i j ei ej eq => ?_, fun x hx => ⟨(h.xs x hx).1, (h.xs x hx).2.1, fun j e => ?_⟩⟩, fun x hx => hb x (h.inX hx) (h.xs x hx).2.1⟩
  · rcases List.mem_cons.1 hx with rfl | hx
    · simp
    · rcases List.mem_cons.1 hx with rfl | hx
      · simp
      · rcases List.mem_append.1 hx with hx | hx
        · obtain ⟨j, hj, rfl⟩ := List.mem_map.1 hx
          rcases hin j (in_iff.2 hj) with rfl | e
          · rw [if_pos rfl]; simp
          · show (if j = k then B else A j) ∈ _
            rw [hg j e]
            exact List.mem_cons_of_mem _ (h.inA e)
        · exact List.mem_cons_of_mem _ (h.inX hx)
  · show MpP w3 mb n ((adS C.S k).P.length + (adS C.S k).D.length) (atF (adS C.S k) (fun i => if i = k then B else A i)) D
    have e1 : (adS C.S k).P.length + (adS C.S k).D.length = C.S.P.length + C.S.D.length + 1 := by
      rw [ad_ok he]
      show (C.S.P ++ [k]).length + _ = _
      rw [List.length_append]
      simp
      omega
    have e2 : atF (adS C.S k) (fun i => if i = k then B else A i) = fun j => if j = k then some B else atF C.S A j := funext fun j => by
      by_cases e : j = k
      · rw [if_pos e, e, at_in (in_iff.2 ((hk k).2 (.inl rfl)))]
        show some (if k = k then B else A k) = _
        rw [if_pos rfl]
      · rw [if_neg e]
        cases e3 : inT C.S j with
        | true =>
          rw [at_in e3, at_in (in_iff.2 ((hk j).2 (.inr (in_iff.1 e3))))]
          show some (if j = k then B else A j) = _
          rw [if_neg e]
        | false =>
          rw [at_out e3]
          exact at_out (in_not.2 (fun hm => by
            rcases (hk j).1 hm with rfl | hm
            · exact e rfl
            · exact in_not.1 e3 hm))
    rw [e1, e2]
    exact m.blk (l mb (by simp))
  · show Cl w3 (if j = k then B else A j) 72 (hc (C.H j))
    rcases hin j e with rfl | e
    · rw [if_pos rfl, hH]
      exact (hC.sp s (by simpa using hBm)).blk (l B (by simp))
    · rw [hg j e]
      exact (h.a j e).blk (hb (A j) (h.inA e) (h.ac j e).2)
  · rcases hin j e with rfl | e
    · show _ ≤ (if j = j then B else A j)
      rw [if_pos rfl]; omega
    · show _ ≤ (if j = k then B else A j)
      rw [hg j e]; exact h.ba j e
  · rcases hin j e with rfl | e
    · show (if j = j then B else A j) ≠ c ∧ (if j = j then B else A j) ≠ mb
      rw [if_pos rfl]
      exact ⟨by omega, hBm⟩
    · show (if j = k then B else A j) ≠ c ∧ (if j = k then B else A j) ≠ mb
      rw [hg j e]; exact h.ac j e
  · have eq' : (if i = k then B else A i) = (if j = k then B else A j) := eq
    by_cases e1 : i = k
    · by_cases e2 : j = k
      · rw [e1, e2]
      · have := (hin j ej).resolve_left e2
        have := hAl j this
        rw [if_pos e1, if_neg e2] at eq'
        omega
    · have h1 := (hin i ei).resolve_left e1
      by_cases e2 : j = k
      · have := hAl i h1
        rw [if_neg e1, if_pos e2] at eq'
        omega
      · rw [if_neg e1, if_neg e2] at eq'
        exact h.aa i j h1 ((hin j ej).resolve_left e2) eq'
  · rcases hin j e with rfl | e
    · show x ≠ (if j = j then B else A j)
      rw [if_pos rfl]
      have := h5 x (h.inX hx)
      omega
    · show x ≠ (if j = k then B else A j)
      rw [hg j e]; exact (h.xs x hx).2.2 j e

/-! ### find, refuses -/
set_option maxRecDepth 100000 in
theorem find_any (h : CB w0 w c mb tb A q C X) {k : Int} (hk : iOk k) : Calls Tryd.prog 25 #[.pointer (some ⟨c, 0, none⟩), .int .i64 k] w fun e w' => e = .returned (.tuple #[ptO (atF C.S A k), .bool (inT C.S k)]) ∧ Kp w w' := by
  obtain ⟨n, D, hn, hm⟩ := h.m
  have hl := hm.look hk
  rw [at_is] at hl
  obtain ⟨c0, _, _⟩ := h.cells
  clear h hm hn
  go_enter Tryd.func25, Tryd.ntmps25
  go_wp2
  go_ret2
  exact ⟨rfl, Kp.refl w⟩
set_option maxRecDepth 100000 in
set_option maxHeartbeats 1000000 in
theorem refuses_any (h : CB w0 w c mb tb A q C X) (k j : Int) (s : ByteArray) : Calls Tryd.prog 28 #[.pointer (some ⟨c, 0, none⟩), .int .i64 k, .int .i64 j, .string s] w fun e w' => e = .returned (.int .i64 (rfE C k j s.size)) ∧ Kp w w' := by
  obtain ⟨_, _, c2⟩ := h.cells
  obtain ⟨W, hW⟩ : ∃ W, W = C.W := ⟨_, rfl⟩
  rw [← hW] at c2
  obtain ⟨n, hn⟩ : ∃ n, n = s.size := ⟨_, rfl⟩
  rw [← hn]
  have HN := hid hn
  have HR : ∀ E, (if k < 0 ∨ 64 ≤ k ∨ j < 0 ∨ W ≤ j then 3 else if n ≠ 64 then 4 else 0) = E → rfE C k j n = E := fun E e => by unfold rfE; rw [← hW]; exact e
  have HL : ∀ (t : TypeId) (V : World), (Builtin.len_ #[9] t #[.string s]).run Tryd.prog V = .ok (.int .i64 (n : Int)) V := fun t V => by rw [HN.out]; rfl
  by_cases h1 : k < 0
  · rw [HR 3 (if_pos (.inl h1))]
    clear h hW hn HR
    go_enter Tryd.func28, Tryd.ntmps28
    go_wp2
    go_ret
    exact ⟨rfl, Kp.refl w⟩
  · by_cases h2 : 64 ≤ k
    · rw [HR 3 (if_pos (.inr (.inl h2)))]
      clear h hW hn HR
      go_enter Tryd.func28, Tryd.ntmps28
      go_wp2
      go_ret
      exact ⟨rfl, Kp.refl w⟩
    · by_cases h3 : j < 0
      · rw [HR 3 (if_pos (.inr (.inr (.inl h3))))]
        clear h hW hn HR
        go_enter Tryd.func28, Tryd.ntmps28
        go_wp2
        go_ret
        exact ⟨rfl, Kp.refl w⟩
      · by_cases h4 : W ≤ j
        · rw [HR 3 (if_pos (.inr (.inr (.inr h4))))]
          clear h hW hn HR
          go_enter Tryd.func28, Tryd.ntmps28
          go_wp2
          go_ret
          exact ⟨rfl, Kp.refl w⟩
        · by_cases h5 : n = 64
          · rw [HR 0 (by rw [if_neg (by omega), if_neg (by omega)])]
            have h6 : ((n : Int) != 64) = false := by rw [h5]; rfl
            clear h hW hn HR h5
            go_enter Tryd.func28, Tryd.ntmps28
            go_wp2
            go_ret
            exact ⟨rfl, Kp.refl w⟩
          · rw [HR 4 (by rw [if_neg (by omega), if_pos (by omega)])]
            have h6 : ((n : Int) != 64) = true := by simp; omega
            clear h hW hn HR h5
            go_enter Tryd.func28, Tryd.ntmps28
            go_wp2
            go_ret
            exact ⟨rfl, Kp.refl w⟩

/-! ### forget, place, use -/
set_option maxRecDepth 100000 in
set_option maxHeartbeats 1000000 in
theorem forget_any (h : CB w0 w c mb tb A q C X) {v : Int} (hv : inT C.S v = true) : Calls Tryd.prog 36 #[.pointer (some ⟨c, 0, none⟩), .int .i64 v] w fun e w' => e = .returned (.tuple #[]) ∧ CB w0 w' c mb tb A q { C with S := drS C.S v, H := upH C.H v hd0 } X ∧ Lk X w w' := by
  have hT := h.tu.drop v
  obtain ⟨c0, c1, _⟩ := h.cells
  have hvk : iOk v := h.tu.g.ok v (in_iff.1 hv)
  have HH : Hid (CB w0 w c mb tb A q C X ∧ inT C.S v = true ∧ iOk v) := ⟨h, hv, hvk⟩
  clear h hv hvk
  go_enter Tryd.func36, Tryd.ntmps36
  go_wp2_with fail
  refine hT.mono ?_; rintro e w1 ⟨rfl, u, l⟩
  obtain ⟨n, D, hn, hm⟩ := HH.out.1.m
  obtain ⟨w2, hrun, hm2, hs⟩ := (hm.blk (l mb (by simp))).del HH.out.2.2
  have c0 := (World.cell?_of_block (a := ⟨c, 0, none⟩) (l c (by simp))).trans c0
  rw [show (atF C.S A v).isSome = true by rw [at_is]; exact HH.out.2.1, if_pos rfl] at hm2
  have HN := hid (HH.out.1.gone HH.out.2.1 u l hs hn hm2)
  clear hT u l hm hn hm2 hs HH c1
  go_wp2
  go_end0
  exact ⟨rfl, HN.out⟩
set_option maxRecDepth 100000 in
set_option maxHeartbeats 1000000 in
theorem place_any (h : CB w0 w c mb tb A q C X) : Calls Tryd.prog 51 #[.pointer (some ⟨c, 0, none⟩)] w fun e w' => e = .returned (.bool (!fulB C.S || (vcO C.S).isSome)) ∧ CB w0 w' c mb tb A q (plC C) X ∧ Lk X w w' := by
  have hF := h.tu.full
  obtain ⟨c0, c1, _⟩ := h.cells
  cases hf : fulB C.S with
  | false =>
    rw [show decide (C.S.M ≤ (C.S.P.length : Int) + (C.S.D.length : Int)) = false from hf] at hF
    have HH : Hid (CB w0 w c mb tb A q C X ∧ plC C = C) := ⟨h, by unfold plC; rw [hf]; rfl⟩
    clear h hf
    go_enter Tryd.func51, Tryd.ntmps51
    go_wp2_with fail
    refine hF.mono ?_; rintro e w1 ⟨rfl, k1⟩
    have HN := hid (HH.out.1.kp k1)
    clear hF
    go_wp2
    go_ret
    refine ⟨rfl, ?_⟩
    rw [HH.out.2]
    exact HN.out
  | true =>
    rw [show decide (C.S.M ≤ (C.S.P.length : Int) + (C.S.D.length : Int)) = true from hf] at hF
    cases hv : vcO C.S with
    | none =>
      have hV : ∀ w', CB w0 w' c mb tb A q C X → Calls Tryd.prog 68 #[.pointer (some ⟨tb, 0, none⟩)] w' fun e w'' => e = .returned (.tuple #[.int .i64 0, .bool false]) ∧ Kp w' w'' := fun w' h' => by
        have := h'.tu.victim
        unfold vcK at this
        rw [hv] at this
        exact this
      have HH : Hid (CB w0 w c mb tb A q C X ∧ plC C = C) := ⟨h, by unfold plC; rw [hf, hv]; rfl⟩
      clear h hf hv
      go_enter Tryd.func51, Tryd.ntmps51
      go_wp2_with fail
      refine hF.mono ?_; rintro e w1 ⟨rfl, k1⟩
      have hV1 := hV w1 (HH.out.1.kp k1).1
      have c1 := k1.held c1
      have HK := hid k1
      clear hF hV c0 k1
      go_wp2_with fail
      refine hV1.mono ?_; rintro e w2 ⟨rfl, k2⟩
      have HN := hid (HH.out.1.kp (HK.out.trans k2))
      clear hV1 k2
      go_wp2
      go_ret
      refine ⟨rfl, ?_⟩
      rw [HH.out.2]
      exact HN.out
    | some v =>
      have hV : ∀ w', CB w0 w' c mb tb A q C X → Calls Tryd.prog 68 #[.pointer (some ⟨tb, 0, none⟩)] w' fun e w'' => e = .returned (.tuple #[.int .i64 v, .bool true]) ∧ Kp w' w'' := fun w' h' => by
        have := h'.tu.victim
        unfold vcK at this
        rw [hv] at this
        exact this
      have HH : Hid (CB w0 w c mb tb A q C X ∧ plC C = { C with S := drS C.S v, H := upH C.H v hd0 } ∧ inT C.S v = true) := ⟨h, by unfold plC; rw [hf, hv]; rfl, in_iff.2 (vc_in hv).1⟩
      clear h hf hv
      go_enter Tryd.func51, Tryd.ntmps51
      go_wp2_with fail
      refine hF.mono ?_; rintro e w1 ⟨rfl, k1⟩
      have hV1 := hV w1 (HH.out.1.kp k1).1
      have c1 := k1.held c1
      have HK := hid k1
      clear hF hV c0 k1
      go_wp2_with fail
      refine hV1.mono ?_; rintro e w2 ⟨rfl, k2⟩
      have HB := hid (HH.out.1.kp (HK.out.trans k2))
      have hG := forget_any HB.out.1 HH.out.2.2
      clear hV1 k2 c1
      go_wp2_with fail
      refine hG.mono ?_; rintro e w3 ⟨rfl, b3, l3⟩
      have HN : Hid (CB w0 w3 c mb tb A q (plC C) X ∧ Lk X w w3) := by
        refine ⟨?_, HB.out.2.trans l3⟩
        rw [HH.out.2.1]
        exact b3
      clear hG b3 l3
      go_wp2
      go_ret
      exact ⟨rfl, HN.out⟩
def zc (j : Nat) : Value := if j < 4 then .int .u64 0 else if j < 34 then .string ByteArray.empty else if j < 38 then .int .u64 0 else if j < 68 then .string ByteArray.empty else .int .u64 0
def zH : Array Value := ((List.range 72).map zc).toArray
theorem zero_held (w : World) : (zeroValue 72).run Tryd.prog w = .ok (.agg zH) w := by kernel_rfl
theorem zH_at (j : Nat) (h : j < 72) : zH[j]? = some (hc hd0 j) := by
  have h4 : ∀ k, wd noF k = 0 := no_word
  have e1 : stF hd0.n = noF := by funext i; exact isS_no
  have e2 : stF hd0.o = noF := by funext i; exact isS_no
  have e3 : sdF hd0.d = noF := rfl
  have hh : hc hd0 j = zc j := by
    unfold hc cc zc
    rw [e1, e2, e3, h4, h4, h4]
    by_cases a : j < 4
    · rw [if_pos (by omega), if_pos a, if_pos a]; rfl
    · rw [if_neg a, if_neg a]
      by_cases b : j < 34
      · rw [if_pos b, if_pos b]; rfl
      · rw [if_neg b, if_neg b]
        by_cases d : j < 68
        · rw [if_pos d, if_pos d]
          by_cases f : j < 38
          · rw [if_pos (by omega), if_pos f]; rfl
          · rw [if_neg (by omega), if_neg f]; rfl
        · rw [if_neg d, if_neg d, if_neg (by omega)]; rfl
  rw [hh]
  unfold zH
  rw [List.getElem?_toArray, List.getElem?_map, List.getElem?_range h]
  rfl
theorem Cl.new (w : World) (t : TypeId) : Cl (w.alloc (.cells zH t)) w.heap.size 72 (hc hd0) :=
  ⟨by simp, fun j hj => (World.cell?_alloc_at _ _ _ _ rfl).trans (zH_at j hj), fun j => World.frozen?_alloc_at _ _ _ _ rfl⟩
/-- what a use answers. -/
def usV (C : CS) (A : Int → Nat) (k : Int) : Value := if usE C k = 0 then .pointer (some ⟨A k, 0, none⟩) else .pointer none
set_option maxRecDepth 100000 in
set_option maxHeartbeats 2000000 in
theorem use_any (h : CB w0 w c mb tb A q C X) (hi : Ci C) (hq : q < 1000) {k : Int} (hk : 0 ≤ k ∧ k < 64) : Calls Tryd.prog 29 #[.pointer (some ⟨c, 0, none⟩), .int .i64 k] w fun e w' => ∃ A', e = .returned (.tuple #[usV C A' k, .int .i64 (usE C k)]) ∧ CB w0 w' c mb tb A' (q + 1) (usC C k) X ∧ Lk X w w' := by
  have hko : iOk k := by unfold iOk; omega
  have hF := find_any h hko
  obtain ⟨c0, c1, _⟩ := h.cells
  cases hin : inT C.S k with
  | true =>
    rw [hin, at_in hin] at hF
    have he : usE C k = 0 := by unfold usE; rw [hin]; rfl
    have hc : usC C k = { C with S := toS C.S k } := by unfold usC; rw [hin]; rfl
    have hv : usV C A k = .pointer (some ⟨A k, 0, none⟩) := by unfold usV; rw [if_pos he]
    have HH : Hid (CB w0 w c mb tb A q C X ∧ usC C k = { C with S := toS C.S k } ∧ usE C k = 0 ∧ usV C A k = .pointer (some ⟨A k, 0, none⟩)) := ⟨h, hc, he, hv⟩
    clear h hin he hc hi hv
    go_enter Tryd.func29, Tryd.ntmps29
    go_wp2_with fail
    refine hF.mono ?_; rintro e w1 ⟨rfl, k1⟩
    have c1 := k1.held c1
    have HB := hid (HH.out.1.kp k1)
    have hT := HB.out.1.tu.touch k
    clear hF c0 k1
    unfold ptO
    go_wp2_with fail
    refine hT.mono ?_; rintro e w2 ⟨rfl, u, l⟩
    have HN : Hid (CB w0 w2 c mb tb A (q + 1) (usC C k) X ∧ Lk X w w2) := by
      obtain ⟨b, l2⟩ := HB.out.1.turn u l (to_perm HB.out.1.tu.g k)
      refine ⟨?_, HB.out.2.trans l2⟩
      rw [HH.out.2.1]
      exact b.more (Nat.le_succ _)
    clear hT u l
    go_wp2
    go_ret2
    exact ⟨A, by rw [HH.out.2.2.1, HH.out.2.2.2]; rfl, HN.out⟩
  | false =>
    rw [hin, at_out hin] at hF
    by_cases he : usE C k = 0
    · have hp : (!fulB C.S || (vcO C.S).isSome) = true := by
        unfold usE at he
        rw [hin, if_neg (by decide)] at he
        cases hf : fulB C.S with
        | false => rfl
        | true =>
          rw [hf, if_pos rfl] at he
          cases hv : (vcO C.S).isSome with
          | true => rfl
          | false => rw [hv] at he; exact absurd he (by decide)
      have hP : ∀ w', CB w0 w' c mb tb A q C X → Calls Tryd.prog 51 #[.pointer (some ⟨c, 0, none⟩)] w' fun e w'' => e = .returned (.bool true) ∧ CB w0 w'' c mb tb A q (plC C) X ∧ Lk X w' w'' := fun w' h' => by
        have := place_any h'
        rw [hp] at this
        exact this
      have HH : Hid (CB w0 w c mb tb A q C X ∧ usC C k = { plC C with S := adS (plC C).S k } ∧ usE C k = 0 ∧ adE (plC C).S k = 0 ∧ (plC C).H k = hd0 ∧ (atF (plC C).S A k).isSome = false) := by
        obtain ⟨i1, i2⟩ := hi.place h.tu.g
        have o1 := (pl_off h.tu.g hin).1
        refine ⟨h, by unfold usC; rw [hin, if_neg (by decide), if_pos he], he, pl_add h.tu.g hin he, i1.outk o1, by rw [at_is]; exact o1⟩
      clear h hin he hi hp
      have hz := zero_held
      obtain ⟨P, hP0⟩ : ∃ P, P = plC C := ⟨_, rfl⟩
      go_enter Tryd.func29, Tryd.ntmps29
      go_wp2_with fail
      refine hF.mono ?_; rintro e w1 ⟨rfl, k1⟩
      have hP1 := hP w1 (HH.out.1.kp k1).1
      have HK := hid k1
      clear hF hP c0 c1 k1
      go_wp2_with fail
      refine hP1.mono ?_; rintro e w2 ⟨rfl, b2, l2⟩
      obtain ⟨c0, c1, _⟩ := b2.cells
      obtain ⟨V, hV⟩ : ∃ V, V = w2.alloc (.cells zH 72) := ⟨_, rfl⟩
      obtain ⟨B, hB⟩ : ∃ B, B = w2.heap.size := ⟨_, rfl⟩
      have kV : Kp w2 V := by rw [hV]; exact (Kp.refl w2).alloc _
      have hCl : Cl V B 72 (hc hd0) := by rw [hV, hB]; exact Cl.new w2 _
      have c0 := kV.held c0
      have c1 := kV.held c1
      have hbV := b2.kp kV
      obtain ⟨n, D, hn, hm⟩ := hbV.1.m
      obtain ⟨w3, D3, hrun, hm3, hs3⟩ := hm.put hko (by omega) B
      rw [HH.out.2.2.2.2.2, if_neg (by decide)] at hm3
      have c1 : w3.cell? ⟨c, 1, none⟩ = some (.pointer (some ⟨tb, 0, none⟩)) := hs3.held c1 (by simpa using hbV.1.cm)
      have hu3 : Tu w0 w3 tb (plC C).S (B :: c :: mb :: (((plC C).S.P ++ (plC C).S.D).map A ++ X)) := by
        refine (b2.tu.more kV (by omega) (hCl.lt)).sp hs3 (fun t ht => ?_)
        simp at ht
        subst ht
        exact ⟨by simp, b2.bm⟩
      have hAd := hu3.add hko
      rw [HH.out.2.2.2.1] at hAd
      have HB : Hid (CB w0 w2 c mb tb A q (plC C) X ∧ Lk X w w2 ∧ Kp w2 V ∧ w2.heap.size ≤ B ∧ Cl V B 72 (hc hd0) ∧ Sp [mb] V w3 ∧ n ≤ q ∧ MpP w3 mb (n + 1) ((plC C).S.P.length + (plC C).S.D.length + 1) (fun j => if j = k then some B else atF (plC C).S A j) D3) := ⟨b2, (HH.out.1.kp HK.out).2.trans l2, kV, by omega, hCl, hs3, hn, hm3⟩
      have HV : Hid (V = w2.alloc (.cells zH 72) ∧ B = w2.heap.size) := ⟨hV, hB⟩
      clear hP1 b2 l2 hV hB kV hCl hbV hm hn hm3 hs3 hu3 HK
      go_upto_region 8 with fail
      rw [← HV.out.1, ← HV.out.2]
      clear HV
      go_wp2_with fail
      refine hAd.mono ?_; rintro e w4 ⟨rfl, u, l⟩
      have HN : Hid (CB w0 w4 c mb tb (fun i => if i = k then B else A i) (q + 1) (usC C k) X ∧ Lk X w w4) := by
        obtain ⟨b1, b2, b3, b4, b5, b6, b7, b8⟩ := HB.out
        obtain ⟨g1, g2⟩ := b1.grow HH.out.2.2.2.1 HH.out.2.2.2.2.1 b3 b4 b5 b6 (Nat.succ_le_succ b7) b8 u l
        refine ⟨?_, b2.trans g2⟩
        rw [HH.out.2.1]
        exact g1
      clear hAd u l HB
      go_wp2
      go_ret2
      have hv : usV C (fun i => if i = k then B else A i) k = .pointer (some ⟨B, 0, none⟩) := by
        unfold usV
        rw [HH.out.2.2.1, if_pos rfl]
        show Value.pointer (some ⟨if k = k then B else A k, 0, none⟩) = _
        rw [if_pos rfl]
      exact ⟨_, by rw [hv, HH.out.2.2.1]; rfl, HN.out⟩
    · have hp : (!fulB C.S || (vcO C.S).isSome) = false := by
        unfold usE at he
        rw [hin, if_neg (by decide)] at he
        cases hf : fulB C.S with
        | false => rw [hf] at he; exact absurd rfl he
        | true =>
          rw [hf, if_pos rfl] at he
          cases hv : (vcO C.S).isSome with
          | false => rfl
          | true => rw [hv] at he; exact absurd rfl he
      have h10 : usE C k = 10 := by
        unfold usE at he ⊢
        rw [hin, if_neg (by decide)] at he ⊢
        split
        · rename_i hf
          rw [if_pos hf] at he
          split
          · rename_i hv; rw [if_pos hv] at he; exact absurd rfl he
          · rfl
        · rename_i hf
          rw [if_neg hf] at he; exact absurd rfl he
      have hpl : plC C = C := by
        unfold plC
        split
        · rename_i hf
          rw [hf] at hp
          cases hv : vcO C.S with
          | none => rfl
          | some v => rw [hv] at hp; cases hp
        · rfl
      have hP : ∀ w', CB w0 w' c mb tb A q C X → Calls Tryd.prog 51 #[.pointer (some ⟨c, 0, none⟩)] w' fun e w'' => e = .returned (.bool false) ∧ CB w0 w'' c mb tb A q C X ∧ Lk X w' w'' := fun w' h' => by
        have := place_any h'
        rw [hp, hpl] at this
        exact this
      have HH : Hid (CB w0 w c mb tb A q C X ∧ usC C k = C ∧ usE C k = 10) := ⟨h, by unfold usC; rw [hin, if_neg (by decide), if_neg he], h10⟩
      clear h hin he hi hp hpl h10
      go_enter Tryd.func29, Tryd.ntmps29
      go_wp2_with fail
      refine hF.mono ?_; rintro e w1 ⟨rfl, k1⟩
      have hP1 := hP w1 (HH.out.1.kp k1).1
      have HK := hid k1
      clear hF hP c0 c1 k1
      go_wp2_with fail
      refine hP1.mono ?_; rintro e w2 ⟨rfl, b2, l2⟩
      have HN : Hid (CB w0 w2 c mb tb A (q + 1) (usC C k) X ∧ Lk X w w2) := by
        refine ⟨?_, (HH.out.1.kp HK.out).2.trans l2⟩
        rw [HH.out.2.1]
        exact b2.more (Nat.le_succ _)
      clear hP1 b2 l2
      go_wp2
      go_ret2
      exact ⟨A, by unfold usV; rw [HH.out.2.2, if_neg (by decide)]; rfl, HN.out⟩
end

end Go.Proofs.YtncdidklgpmefaaDoor
