/-
  A member and the document's, side by side: their blocks apart; what Waiting leaves as it is. No condition.
-/
import Derived.Test.YtohakbhjkhhcaaaMmRef6
namespace Go.Proofs.Ytohakbhjkhhcaaa
open Go.RowKit Plain
set_option linter.unusedVariables false

set_option maxRecDepth 100000 in
set_option maxHeartbeats 1000000 in
theorem waiting_same {w : World} {b bn bl : Nat} {rv : Value} {S : MS} (h : MemIn w b bn bl rv S 0 0) (hrl : S.row.length < 1000000) : Calls Try.prog 18 #[.pointer (some ⟨b, 0, none⟩)] w fun e w' => ∃ g, e = .returned (.slice (some ⟨g, 0, none⟩) S.row.length S.row.length) ∧ Nm w' g S.row.length (fun i => ((S.row.getD i (0, noS)).1 : Int)) ∧ (MemIn w' b bn bl rv S 0 0 ∧ Sp (blk b bn bl rv) w w') ∧ w.heap.size ≤ g := by
  obtain ⟨a, cap, rfl, hn1, hn2⟩ := h.rw.len
  obtain ⟨n, hn⟩ : ∃ n, n = S.row.length := ⟨_, rfl⟩
  rw [← hn] at h hn1 hrl ⊢
  have HN := hid hn
  clear hn
  have hmk := fun W => run_make_row' (P := Try.prog) 49 3 (.int .i64 0) 8 Try.underlying49 info_int rfl .i64 .i64 n (by omega) (by omega) W
  go_enter_defers Try.func18, Try.ntmps18
  go_wp2_with fail
  refine (rlock_any h).mono ?_
  rintro e w1 ⟨rfl, h1, k1⟩
  have cR := h1.cR
  have hb1 := h1.hb
  have H1 := hid h1
  obtain ⟨W, hW⟩ : ∃ W, W = w1.alloc (.cells (madeCells #[.int .i64 0] n) 3) := ⟨_, rfl⟩
  have NM := Nm.made w1 n
  rw [← hW] at NM
  have kW : Kp w1 W := by rw [hW]; exact (Kp.refl w1).alloc _
  obtain ⟨G, hG⟩ : ∃ G, G = w1.heap.size := ⟨_, rfl⟩
  rw [← hG] at NM
  have hG2 : w1.heap.size ≤ G := by omega
  have HW := hid hW
  have HG := hid hG
  have cR2 := kW.held cR
  clear hW hG h h1
  have HNM := hid NM
  have HKW := hid kW
  clear NM kW
  go_wp2_with fail
  rw [← HW.out, ← HG.out]
  clear hmk cR HW
  go_loopw [26] (fun i wr => ∃ k : Nat, k ≤ n ∧ i = .int .i64 k ∧ Hid (Nm wr G n (atF S.row k)) ∧ Hid (Kp w1 wr)) (fun i _ => n - (intOf i).toNat)
  case atStart => exact ⟨0, by omega, by go_num, HNM.out.congr (fun i hi => rfl), HKW⟩
  case round =>
    clear HNM HKW cR2
    obtain ⟨k, hk, rfl, HM, HK⟩ := hrel
    by_cases hlt : k < n
    · have hks : k < S.row.length := by rw [← HN.out]; exact hlt
      have hM := H1.out.kp HK.out
      obtain ⟨g, cap', hv, _, _, _, hrg⟩ := hM.rw.some (by omega)
      obtain rfl : a = some ⟨g, 0, none⟩ := by simp only [Value.slice.injEq] at hv; exact hv.1
      have hr := hrg k hks
      have hp2 := hM.rw.z (S.row.getD k (0, noS)) (by rw [List.getD_eq_getElem?_getD, List.getElem?_eq_getElem hks]; exact List.getElem_mem hks)
      obtain ⟨p, hp⟩ : ∃ p, p = S.row.getD k (0, noS) := ⟨_, rfl⟩
      rw [← hp] at hr hp2
      have HP := hid hp
      have HR := hid hr
      clear hp hr hrg hv hM
      go_wp2_with (first | refine wpList_load_w rfl _ rfl g (k * 65) rfl p hp2 HR.out ?_ | refine wpList_store_new rfl _ _ rfl p hp2 _ rfl rfl rfl ?_)
      intro w2 k2 V2 hl2
      have va := V2.at
      have NM2 := HM.out.kp k2
      have cG := NM2.c k hlt
      have zG := NM2.z k hlt
      have NM3 : Nm (w2.setCell ⟨G, k, none⟩ (.int .i64 (p.1 : Int))) G n (atF S.row (k + 1)) := (NM2.set k (p.1 : Int)).congr (fun i hi => by
        unfold atF
        by_cases e : i = k
        · subst e; rw [if_pos rfl, if_pos (by omega), HP.out]
        · by_cases e2 : i < k
          · rw [if_neg e, if_pos e2, if_pos (by omega)]
          · rw [if_neg e, if_neg e2, if_neg (by omega)])
      have KK : Kp w1 (w2.setCell ⟨G, k, none⟩ (.int .i64 (p.1 : Int))) := (HK.out.trans k2).set G k hG2 _
      have HN3 := hid NM3
      have HK3 := hid KK
      obtain ⟨K, hKK⟩ : ∃ K, K = wr.heap.size := ⟨_, rfl⟩
      rw [← hKK] at va ⊢
      obtain ⟨x, hx⟩ : ∃ x : Int, x = (p.1 : Int) := ⟨_, rfl⟩
      rw [← hx] at va HN3 HK3
      clear hKK hx NM2 NM3 KK k2 V2 hl2 HM HK HR HP
      go_wp2
      go_roundw
      case rel => exact ⟨k + 1, by omega, by go_num, HN3, HK3⟩
      case measure => simp [intOf]; omega
    · obtain rfl : k = n := by omega
      have hM := H1.out.kp HK.out
      go_wp2
      refine leaves_cons (f := 34) (args := #[.pointer (some ⟨b, 4, none⟩)]) (by simp) (by simp [go_sem]) ?_
      refine (runlock_any hM .returning).mono ?_
      rintro e u' w9 ⟨rfl, rfl, h9, k9⟩
      have hGb : G ∉ [b] := by
        have := H1.out.hb
        simp; omega
      refine ⟨_, results_tmp rfl _ _ _, G, rfl, ?_, ⟨h9, ((k1.trans (HK.out.sp _)).trans k9).b⟩, Nat.le_trans k1.size hG2⟩
      have hNM := HM.out
      refine ⟨fun i hi => ?_, fun i hi => ?_⟩
      · rw [k9.held (hNM.c i hi) hGb]; unfold atF; rw [if_pos hi]
      · exact (k9.frozen (World.block_lt_of_cell? _ _ (hNM.c i hi)) hGb i).trans (hNM.z i hi)
theorem ow_waiting2 {w0 w : World} {b : Nat} {T : List Nat} {S : MS} (h : Ow w0 w b T S) (hr : S.row.length < 1000000) : Calls Try.prog 18 #[.pointer (some ⟨b, 0, none⟩)] w fun e w' => ∃ g, e = .returned (.slice (some ⟨g, 0, none⟩) S.row.length S.row.length) ∧ Nm w' g S.row.length (fun i => ((S.row.getD i (0, noS)).1 : Int)) ∧ (Ow w0 w' b T S ∧ Sp T w w') ∧ w.heap.size ≤ g := by
  obtain ⟨bn, bl, rv, rfl, h1, h2⟩ := h
  exact (waiting_same h1 hr).mono fun e w' ⟨g, he, hn, hm, hg⟩ => ⟨g, he, hn, ⟨⟨bn, bl, rv, rfl, hm.1, h2⟩, hm.2⟩, hg⟩
theorem Nm.sp {w w' : World} {g n : Nat} {f : Nat → Int} (h : Nm w g n f) {T : List Nat} (k : Sp T w w') (hg : g ∉ T) : Nm w' g n f := ⟨fun i hi => k.held (h.c i hi) hg, fun i hi => (k.frozen (World.block_lt_of_cell? w _ (h.c i hi)) hg i).trans (h.z i hi)⟩

/-! ### both -/
def Pr (w0 w : World) (T : List Nat) (x r : Nat) (A B : MS) : Prop := ∃ P gs cap wv, T = P ++ rblk r gs wv ∧ Ow w0 w x P A ∧ RefIn w r gs cap wv B ∧ Dj P (rblk r gs wv) ∧ ∀ t, t ∈ rblk r gs wv → w0.heap.size ≤ t
theorem Pr.new {w0 w : World} {T : List Nat} {x r : Nat} {A B : MS} (h : Pr w0 w T x r A B) : ∀ t, t ∈ T → w0.heap.size ≤ t := by
  obtain ⟨P, gs, cap, wv, rfl, h1, h2, h3, h4⟩ := h
  intro t ht
  rcases List.mem_append.1 ht with ht | ht
  · exact h1.new t ht
  · exact h4 t ht
theorem Pr.low {w0 w : World} {T : List Nat} {x r : Nat} {A B : MS} (h : Pr w0 w T x r A B) : ∀ t, t ∈ T → t < w.heap.size := by
  obtain ⟨P, gs, cap, wv, rfl, h1, h2, h3, h4⟩ := h
  intro t ht
  rcases List.mem_append.1 ht with ht | ht
  · exact h1.low t ht
  · exact h2.low t ht
theorem Pr.kp {w0 w w' : World} {T : List Nat} {x r : Nat} {A B : MS} (h : Pr w0 w T x r A B) (k : Kp w w') : Pr w0 w' T x r A B := by
  obtain ⟨P, gs, cap, wv, rfl, h1, h2, h3, h4⟩ := h
  exact ⟨P, gs, cap, wv, rfl, h1.kp k, h2.kp k, h3, h4⟩
theorem Pr.sp {w0 w w' : World} {T : List Nat} {x r : Nat} {A B : MS} (h : Pr w0 w T x r A B) {U : List Nat} (k : Sp U w w') (hd : Dj T U) : Pr w0 w' T x r A B := by
  obtain ⟨P, gs, cap, wv, rfl, h1, h2, h3, h4⟩ := h
  exact ⟨P, gs, cap, wv, rfl, h1.sp k (fun t ht => hd t (List.mem_append_left _ ht)), h2.sp k (fun t ht => hd t (List.mem_append_right _ ht)), h3, h4⟩
/-- from W on. -/
def Px (w0 W : World) (T : List Nat) (x r : Nat) (A B : MS) (w' : World) : Prop := ∃ T', Pr w0 w' T' x r A B ∧ Sp T W w' ∧ Nw W T T'
theorem Px.refl {w0 W : World} {T : List Nat} {x r : Nat} {A B : MS} (h : Pr w0 W T x r A B) : Px w0 W T x r A B W := ⟨T, h, Sp.refl _ _, Nw.refl _ _⟩
theorem Px.kp {w0 W w' w'' : World} {T : List Nat} {x r : Nat} {A B : MS} (h : Px w0 W T x r A B w') (k : Kp w' w'') : Px w0 W T x r A B w'' := by
  obtain ⟨T', h1, h2, h3⟩ := h
  exact ⟨T', h1.kp k, h2.trans (k.sp _), h3⟩
theorem Px.below {w0 W w' : World} {T : List Nat} {x r : Nat} {A B : MS} (h : Px w0 W T x r A B w') (K : Kp w0 W) (hT : ∀ t, t ∈ T → w0.heap.size ≤ t) : Kp w0 w' := by
  obtain ⟨T', h1, h2, h3⟩ := h
  exact Sp.kp K h2 hT
theorem Px.held {w0 W w' : World} {T : List Nat} {x r : Nat} {A B : MS} (h : Px w0 W T x r A B w') {b o : Nat} {v : Value} (hc : W.cell? ⟨b, o, none⟩ = some v) (hb : b ∉ T) : w'.cell? ⟨b, o, none⟩ = some v := by
  obtain ⟨T', h1, h2, h3⟩ := h
  exact h2.held hc hb
theorem Px.trans {w0 W W' w' : World} {T T' : List Nat} {x r : Nat} {A B : MS} (h2 : Sp T W W') (h3 : Nw W T T') (h : Px w0 W' T' x r A B w') : Px w0 W T x r A B w' := by
  obtain ⟨T2, q1, q2, q3⟩ := h
  exact ⟨T2, q1, h2.then q2 h3, h3.trans q3 h2.size⟩
theorem Px.from {w0 W W' w' : World} {T : List Nat} {x r : Nat} {A B : MS} (k : Kp W W') (h : Px w0 W' T x r A B w') : Px w0 W T x r A B w' := Px.trans (k.sp T) (Nw.refl _ _) h
/-- a call on the member. -/
theorem Px.mem {w0 W w' : World} {T : List Nat} {x r : Nat} {A B : MS} (K : Kp w0 W) (hT : ∀ t, t ∈ T → w0.heap.size ≤ t) (h : Px w0 W T x r A B w') {F : FuncId} {args : Array Value} {E : Ending → Prop} {A' : MS}
    (hc : ∀ P, Ow w0 w' x P A → Kp w0 w' → Calls Try.prog F args w' fun e w'' => E e ∧ Nx w0 w' w'' x P A') : Calls Try.prog F args w' fun e w'' => E e ∧ Px w0 W T x r A' B w'' := by
  have K' := h.below K hT
  obtain ⟨T', ⟨P, gs, cap, wv, rfl, h1, h2, d, h4⟩, q2, q3⟩ := h
  refine (hc P h1 K').mono fun e w'' ⟨he, P', p1, p2, p3⟩ => ⟨he, ?_⟩
  have d' : Dj P' (rblk r gs wv) := fun t ht ht2 => by
    rcases p3 t ht with h5 | h5
    · exact d t h5 ht2
    · have := h2.low t ht2; omega
  refine ⟨P' ++ rblk r gs wv, ⟨P', gs, cap, wv, rfl, p1, h2.sp p2 d.symm, d', h4⟩, q2.then (p2.mono fun t ht => List.mem_append_left _ ht) q3, q3.trans (fun t ht => ?_) q2.size⟩
  rcases List.mem_append.1 ht with h5 | h5
  · rcases p3 t h5 with h6 | h6
    · exact .inl (List.mem_append_left _ h6)
    · exact .inr h6
  · exact .inl (List.mem_append_right _ h5)
/-- a call on the document's. -/
theorem Px.doc {w0 W w' : World} {T : List Nat} {x r : Nat} {A B : MS} (K : Kp w0 W) (hT : ∀ t, t ∈ T → w0.heap.size ≤ t) (h : Px w0 W T x r A B w') {F : FuncId} {args : Array Value} {E : Ending → Prop} {B' : MS}
    (hc : ∀ gs cap wv, RefIn w' r gs cap wv B → Kp w0 w' → w0.heap.size ≤ gs → Calls Try.prog F args w' fun e w'' => E e ∧ Rd w' w'' r gs wv B') : Calls Try.prog F args w' fun e w'' => E e ∧ Px w0 W T x r A B' w'' := by
  have K' := h.below K hT
  obtain ⟨T', ⟨P, gs, cap, wv, rfl, h1, h2, d, h4⟩, q2, q3⟩ := h
  refine (hc gs cap wv h2 K' (h4 gs (by simp [rblk]))).mono fun e w'' ⟨he, gs', cap', wv', p1, p2, p3⟩ => ⟨he, ?_⟩
  have d' : Dj P (rblk r gs' wv') := fun t ht ht2 => by
    rcases p3 t ht2 with h5 | h5
    · exact d t ht h5
    · have := h1.low t ht; omega
  refine ⟨P ++ rblk r gs' wv', ⟨P, gs', cap', wv', rfl, h1.sp p2 d, p1, d', fun t ht => ?_⟩, q2.then (p2.mono fun t ht => List.mem_append_right _ ht) q3, q3.trans (fun t ht => ?_) q2.size⟩
  · rcases p3 t ht with h5 | h5
    · exact h4 t h5
    · exact Nat.le_trans K'.size h5
  · rcases List.mem_append.1 ht with h5 | h5
    · exact .inl (List.mem_append_left _ h5)
    · rcases p3 t h5 with h6 | h6
      · exact .inl (List.mem_append_right _ h6)
      · exact .inr h6
theorem KeIn.apart {w0 : World} {v : Value} {ks : List Nat} (h : KeIn w0 v ks) {P : List Nat} (hP : ∀ t, t ∈ P → w0.heap.size ≤ t) : ∀ t, t ∈ P → ∀ g off n c, v = .slice (some ⟨g, off, none⟩) n c → 0 < n → g ≠ t := fun t ht g off n c hv hn => by
  have h1 := h.far g off n c hv hn
  have h2 := hP t ht
  omega

end Go.Proofs.Ytohakbhjkhhcaaa
