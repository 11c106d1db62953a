/-
  Contract of the document's ends: all places at which something begins or ends, rising, each once. Conditions: that the lists' cells hold the spans.
-/
import Derived.Test.YtmkmejdbhikomaaSpRef
import Derived.Test.YtmkmejdbhikomaaSpPut
namespace Go.Proofs.Ytmkmejdbhikomaa
open Go.RowKit Plain
set_option linter.unusedVariables false

/-! ### rows of numbers of the call's own -/
def iv (l : List Int) : List Value := l.map (Value.int .i64)
def OwnI (w : World) (base : Nat) (v : Value) (l : List Int) : Prop := w.ownsRow base 3 1 v l.length (iv l)
theorem info_int : (Try.prog.info? 3).map (fun i => (i.zero, i.size, i.bytes)) = some (some (.int .i64 0), 1, 8) := by kernel_rfl
theorem OwnI.kept {w w' : World} {base : Nat} {v : Value} {l : List Int} (h : OwnI w base v l) (k : Kp w w') : OwnI w' base v l := k.own h
theorem OwnI.alloc {w : World} {base : Nat} {v : Value} {l : List Int} (h : OwnI w base v l) (o : Obj) : OwnI (w.alloc o) base v l := ((Kp.refl w).alloc o).own h
/-- one number appended. -/
theorem wpList_append_int {w : World} {ops : Array Oper} {rest : List Oper} {o : Oper} {a : Act} {Q : Exit → Act → World → Prop} (hgd : o.guard = none) (s x : Operand)
    (ho : o.op = .call { callee := .builtin .append, args := #[s, x], argTypes := #[33, 33] })
    (base : Nat) (v : Value) (l : List Int) (hs : a.eval s = v) (hown : OwnI w base v l) (p : Int) (k : Nat) (hx : a.eval x = .slice (some ⟨k, 0, none⟩) 1 1) (hc : w.cell? ⟨k, 0, none⟩ = some (.int .i64 p))
    (hlen : l.length + 1 ≤ 1099511627776) (hbase : base ≤ w.heap.size)
    (h : ∀ v' w', OwnI w' base v' (l ++ [p]) → w.grownBy w' v.ownBlock → wpList Try.prog ops Q rest (a.put o.dst v') w') : wpList Try.prog ops Q (o :: rest) a w := by
  obtain ⟨i0, hi, hz0, hz1, hz2⟩ := info_parts info_int
  refine wpList_append_own_at w hgd s x 33 ho base 3 i0 (.int .i64 0) 1 8 Try.underlying33 hi hz0 hz1 hz2 rfl (by decide) v l.length (iv l) hs hown ⟨k, 0, none⟩ 1 1 [.int .i64 p] hx rfl ?_ (by simp [Value.oneCell']) (by unfold maxLen; omega) (by omega) hbase (fun v' w' h1 h2 _ _ => h v' w' ?_ h2)
  · intro j u hj
    match j, hj with
    | 0, hj => simp at hj; subst hj; simpa [Addr.add] using hc
  · unfold OwnI iv
    rw [List.length_append, List.map_append]
    exact h1
/-- a row of numbers, by a function. -/
def FI (w : World) (base : Nat) (v : Value) (n : Nat) (f : Nat → Int) : Prop := w.ownsRow base 3 1 v n ((List.range n).map fun i => Value.int .i64 (f i))
theorem FI.of {w : World} {base : Nat} {v : Value} {l : List Int} (h : OwnI w base v l) : FI w base v l.length (fun i => l.getD i 0) := by
  have e : ((List.range l.length).map fun i => Value.int .i64 (l.getD i 0)) = iv l := by
    apply List.ext_getElem?
    intro i
    unfold iv
    rw [List.getElem?_map, List.getElem?_map]
    by_cases hi : i < l.length
    · rw [List.getElem?_range hi, List.getElem?_eq_getElem hi]
      simp [List.getD_eq_getElem?_getD, hi]
    · rw [List.getElem?_eq_none (by simpa using hi), List.getElem?_eq_none (by omega)]; rfl
  unfold FI
  rw [e]
  exact h
theorem FI.kept {w w' : World} {base : Nat} {v : Value} {n : Nat} {f : Nat → Int} (h : FI w base v n f) (k : Kp w w') : FI w' base v n f := k.own h
theorem FI.shape {w : World} {base : Nat} {v : Value} {n : Nat} {f : Nat → Int} (h : FI w base v n f) : ∃ a cap, v = .slice a n cap ∧ n ≤ cap ∧ cap ≤ 9223372036854775807 ∧ (0 < n → ∃ g, a = some ⟨g, 0, none⟩ ∧ base ≤ g) := by
  rcases h.2 with ⟨rfl, rfl⟩ | ⟨g, cap, cur, rfl, hb, hg, hn, hm, _⟩
  · exact ⟨none, 0, rfl, by omega, by omega, fun h => absurd h (by omega)⟩
  · unfold maxLen at hm
    exact ⟨_, cap, rfl, hn, by omega, fun _ => ⟨g, rfl, hb⟩⟩
theorem FI.at {w : World} {base g n cap : Nat} {f : Nat → Int} (h : FI w base (.slice (some ⟨g, 0, none⟩) n cap) n f) (j : Nat) (hj : j < n) : w.cell? ⟨g, j, none⟩ = some (.int .i64 (f j)) := by
  rw [World.ownsRow.cellAt h j (by omega)]
  simp [hj]
theorem FI.z {w : World} {base g n cap : Nat} {f : Nat → Int} (h : FI w base (.slice (some ⟨g, 0, none⟩) n cap) n f) (o : Nat) : w.frozen? ⟨g, o, none⟩ = false := World.ownsRow.frozenAt h o
theorem FI.set {w : World} {base g n cap : Nat} {f : Nat → Int} (h : FI w base (.slice (some ⟨g, 0, none⟩) n cap) n f) (j : Nat) (x : Int) : FI (w.setCell ⟨g, j, none⟩ (.int .i64 x)) base (.slice (some ⟨g, 0, none⟩) n cap) n (fun i => if i = j then x else f i) := by
  have h1 := (World.ownsRow.stored h j (.int .i64 x)).1
  have e : ((List.range n).map fun i => Value.int .i64 (if i = j then x else f i)) = ((List.range n).map fun i => Value.int .i64 (f i)).set j (.int .i64 x) := by
    apply List.ext_getElem?
    intro i
    rw [List.getElem?_set, List.getElem?_map, List.getElem?_map, List.length_map, List.length_range]
    by_cases hi : i < n
    · rw [List.getElem?_range hi]
      by_cases e : j = i
      · subst e; simp [hi]
      · have : ¬ i = j := fun h => e h.symm
        simp [e, this]
    · rw [List.getElem?_eq_none (by simpa using hi)]
      by_cases e : j = i
      · subst e; simp [hi]
      · simp [e]
  unfold FI
  rw [e]
  exact h1
theorem FI.congr {w : World} {base : Nat} {v : Value} {n : Nat} {f g : Nat → Int} (h : FI w base v n f) (e : ∀ j, f j = g j) : FI w base v n g := by
  rw [show g = f from funext fun j => (e j).symm]; exact h
theorem Kp.setB {a w : World} (h : Kp a w) {b o : Nat} (hb : a.heap.size ≤ b) (u : Value) : Kp a (w.setCell ⟨b, o, none⟩ u) := Below.setCell h (p := ⟨b, o, none⟩) hb u
/-- numbers in memory. -/
def InI (w : World) (v : Value) (l : List Int) : Prop := ∃ a g cap, v = .slice a l.length cap ∧ l.length ≤ cap ∧ cap ≤ 9223372036854775807 ∧ (0 < l.length → a = some ⟨g, 0, none⟩) ∧ ∀ j, j < l.length → w.cell? ⟨g, j, none⟩ = some (.int .i64 (l.getD j 0))
theorem OwnI.ints {w : World} {base : Nat} {v : Value} {l : List Int} (h : OwnI w base v l) : InI w v l := by
  have h1 := FI.of h
  obtain ⟨a, cap, rfl, hn, hc, hg⟩ := h1.shape
  by_cases h0 : 0 < l.length
  · obtain ⟨g, rfl, _⟩ := hg h0
    exact ⟨_, g, cap, rfl, hn, hc, fun _ => rfl, fun j hj => h1.at j hj⟩
  · exact ⟨a, 0, cap, rfl, hn, hc, fun h => absurd h h0, fun j hj => absurd hj (by omega)⟩
theorem InI.kept {w w' : World} {v : Value} {l : List Int} (h : InI w v l) (k : Kp w w') : InI w' v l := by
  obtain ⟨a, g, cap, rfl, h1, h2, h3, h4⟩ := h
  exact ⟨a, g, cap, rfl, h1, h2, h3, fun j hj => k.held (h4 j hj)⟩

/-! ### the ends of two lists -/
def en (l : List (Int × Int)) : List Int := l.flatMap fun p => [p.1, p.2]
theorem en_app (l m : List (Int × Int)) : en (l ++ m) = en l ++ en m := by simp [en]
theorem en_len (l : List (Int × Int)) : (en l).length = 2 * l.length := by
  induction l with
  | nil => rfl
  | cons p l ih => simp [en] at ih ⊢; omega
theorem en_mem (l : List (Int × Int)) (x : Int) : x ∈ en l ↔ ∃ p ∈ l, x = p.1 ∨ x = p.2 := by
  simp [en]
/-- sorted below i. -/
def Srt (f : Nat → Int) (i : Nat) : Prop := ∀ p q, p < q → q < i → f p ≤ f q
def Mem (f : Nat → Int) (n : Nat) (L : List Int) : Prop := ∀ x, (∃ j, j < n ∧ f j = x) ↔ x ∈ L
def swp (f : Nat → Int) (k : Nat) : Nat → Int := fun j => if j = k - 1 then f k else if j = k then f (k - 1) else f j
/-- sorted up to i, but for what lies at k. -/
def Srk (f : Nat → Int) (i k : Nat) : Prop := ∀ p q, p < q → q ≤ i → q ≠ k → f p ≤ f q
theorem Srk.start {f : Nat → Int} {i : Nat} (h : Srt f i) : Srk f i i := fun p q h1 h2 h3 => h p q h1 (by omega)
theorem Srk.step {f : Nat → Int} {i k : Nat} (h : Srk f i k) (hk : 0 < k) (hki : k ≤ i) (hl : f k < f (k - 1)) : Srk (swp f k) i (k - 1) := by
  intro p q h1 h2 h3
  unfold swp
  rw [if_neg h3]
  by_cases e1 : q = k
  · subst e1
    rw [if_pos rfl]
    by_cases e2 : p = q - 1
    · rw [if_pos e2]; omega
    · rw [if_neg e2, if_neg (by omega)]
      exact h p (q - 1) (by omega) (by omega) (by omega)
  · rw [if_neg e1]
    by_cases e2 : p = k - 1
    · rw [if_pos e2]
      have : k - 1 < q := by omega
      by_cases e3 : q < k
      · omega
      · exact h k q (by omega) h2 e1
    · rw [if_neg e2]
      by_cases e3 : p = k
      · rw [if_pos e3]; exact h (k - 1) q (by omega) h2 e1
      · rw [if_neg e3]; exact h p q h1 h2 e1
theorem Srk.done {f : Nat → Int} {i k : Nat} (h : Srk f i k) (hki : k ≤ i) (hl : 0 < k → f (k - 1) ≤ f k) : Srt f (i + 1) := by
  intro p q h1 h2
  by_cases e : q = k
  · subst e
    have h3 := hl (by omega)
    by_cases e2 : p = q - 1
    · rw [e2]; exact h3
    · have := h p (q - 1) (by omega) (by omega) (by omega)
      omega
  · exact h p q h1 (by omega) e
theorem Mem.swap {f : Nat → Int} {n k : Nat} {L : List Int} (h : Mem f n L) (hk : 0 < k) (hkn : k < n) : Mem (swp f k) n L := by
  intro x
  rw [← h x]
  constructor
  · rintro ⟨j, hj, rfl⟩
    by_cases e1 : j = k - 1
    · exact ⟨k, hkn, by rw [e1]; unfold swp; rw [if_pos rfl]⟩
    · by_cases e2 : j = k
      · exact ⟨k - 1, by omega, by rw [e2]; unfold swp; rw [if_neg (by omega), if_pos rfl]⟩
      · exact ⟨j, hj, by unfold swp; rw [if_neg e1, if_neg e2]⟩
  · rintro ⟨j, hj, rfl⟩
    by_cases e1 : j = k - 1
    · exact ⟨k, hkn, by rw [e1]; unfold swp; rw [if_neg (by omega), if_pos rfl]⟩
    · by_cases e2 : j = k
      · exact ⟨k - 1, by omega, by rw [e2]; unfold swp; rw [if_pos rfl]⟩
      · exact ⟨j, hj, by unfold swp; rw [if_neg e1, if_neg e2]⟩
theorem Mem.of (L : List Int) : Mem (fun i => L.getD i 0) L.length L := by
  intro x
  constructor
  · rintro ⟨j, hj, rfl⟩
    show L.getD j 0 ∈ L
    rw [List.getD_eq_getElem?_getD, List.getElem?_eq_getElem hj]
    exact List.getElem_mem hj
  · intro h
    obtain ⟨j, hj, rfl⟩ := List.getElem_of_mem h
    exact ⟨j, hj, by simp [hj]⟩
/-- each once, of the first k. -/
structure Dst (f : Nat → Int) (k : Nat) (E : List Int) : Prop where
  inc : E.Pairwise (· < ·)
  mem : ∀ x, x ∈ E ↔ ∃ j, j < k ∧ f j = x
  len : E.length ≤ k
theorem Dst.skip {f : Nat → Int} {k : Nat} {E : List Int} (h : Dst f k E) (hk : 0 < k) (he : f k = f (k - 1)) : Dst f (k + 1) E := by
  refine ⟨h.inc, fun x => ?_, by have := h.len; omega⟩
  rw [h.mem x]
  constructor
  · rintro ⟨j, hj, e⟩; exact ⟨j, by omega, e⟩
  · rintro ⟨j, hj, e⟩
    by_cases e1 : j = k
    · exact ⟨k - 1, by omega, by rw [← he, ← e1]; exact e⟩
    · exact ⟨j, by omega, e⟩
theorem Dst.add {f : Nat → Int} {n k : Nat} {E : List Int} (h : Dst f k E) (hs : Srt f n) (hk : k < n) (he : k = 0 ∨ f k ≠ f (k - 1)) : Dst f (k + 1) (E ++ [f k]) := by
  have hlt : ∀ x ∈ E, x < f k := fun x hx => by
    obtain ⟨j, hj, rfl⟩ := (h.mem x).1 hx
    have h1 := hs (k - 1) k (by omega) hk
    have h2 : f j ≤ f (k - 1) := by
      by_cases e : j = k - 1
      · rw [e]; exact Int.le_refl _
      · exact hs j (k - 1) (by omega) (by omega)
    rcases he with he | he
    · omega
    · omega
  refine ⟨List.pairwise_append.2 ⟨h.inc, by simp, fun a ha b hb => by rw [List.mem_singleton.1 hb]; exact hlt a ha⟩, fun x => ?_, by have := h.len; simp; omega⟩
  rw [List.mem_append, h.mem x, List.mem_singleton]
  constructor
  · rintro (⟨j, hj, e⟩ | e)
    · exact ⟨j, by omega, e⟩
    · exact ⟨k, by omega, e.symm⟩
  · rintro ⟨j, hj, e⟩
    by_cases e1 : j = k
    · exact .inr (by rw [← e, e1])
    · exact .inl ⟨j, by omega, e⟩
set_option maxRecDepth 100000 in
set_option maxHeartbeats 4000000 in
theorem ends_at (a1 : Option Addr) (b1 o1 p1 : Nat) (a2 : Option Addr) (b2 o2 p2 : Nat) (l m : List (Int × Int)) (w : World) (h1 : SpAt w a1 b1 o1 p1 l) (h2 : SpAt w a2 b2 o2 p2 m) (hl1 : l.length ≤ 1000) (hl2 : m.length ≤ 1000) :
    Calls Try.prog 36 #[.slice a1 l.length p1, .slice a2 m.length p2] w fun e w' => ∃ u E, e = .returned u ∧ InI w' u E ∧ E.Pairwise (· < ·) ∧ (∀ x, x ∈ E ↔ x ∈ en l ++ en m) ∧ E.length ≤ 4000 ∧ Kp w w' := by
  have ha1 := h1.ha
  have ha2 := h2.ha
  have H1 : Hid (SpAt w a1 b1 o1 p1 l) := h1
  have H2 : Hid (SpAt w a2 b2 o2 p2 m) := h2
  obtain ⟨n1, e1⟩ : ∃ n1, n1 = l.length := ⟨_, rfl⟩
  obtain ⟨n2, e2⟩ : ∃ n2, n2 = m.length := ⟨_, rfl⟩
  have E1 : Hid (n1 = l.length) := e1
  have E2 : Hid (n2 = m.length) := e2
  rw [← e1] at ha1 hl1 ⊢
  rw [← e2] at ha2 hl2 ⊢
  clear h1 h2 e1 e2
  go_enter Try.func36, Try.ntmps36
  go_wp2
  go_loopw [6, 5] (fun i q wr => ∃ k : Nat, k ≤ n1 ∧ i = .int .i64 k ∧ Hid (OwnI wr w.heap.size q (en (l.take k))) ∧ Kp w wr) (fun i _ _ => n1 - (intOf i).toNat)
  case atStart => exact ⟨0, by omega, rfl, World.ownsRow_nil _ _ _ _, Kp.refl w⟩
  case round =>
    obtain ⟨k, hk, rfl, HQ, hK⟩ := hrel
    by_cases hlt : k < n1
    · obtain rfl := ha1 (by omega)
      have hlt2 : k < l.length := by rw [← E1.out]; exact hlt
      have c0 := H1.out.c0 k hlt2
      have c1 := H1.out.c1 k hlt2
      have d0 := hK.held c0
      have d1 := hK.held c1
      have HT : Hid (en (l.take (k + 1)) = (en (l.take k) ++ [(l.getD k (0, 0)).1]) ++ [(l.getD k (0, 0)).2]) := by rw [take_at l k hlt2, en_app]; simp [en, Hid]
      obtain ⟨p, hp⟩ : ∃ p, p = l.getD k (0, 0) := ⟨_, rfl⟩
      rw [← hp] at d0 d1 HT c1
      have HC1 : Hid (w.cell? ⟨b1, o1 + k * 2 + 1, none⟩ = some (.int .i64 p.2)) := c1
      clear hp hlt2 c0 c1
      obtain ⟨x, y⟩ := p
      simp only at d0 d1
      have hel : (en (l.take k)).length ≤ 2000 := by rw [en_len, List.length_take]; omega
      have HEL : Hid ((en (l.take k)).length ≤ 2000) := hel
      clear hel
      go_wp2_with (at_builtin; first
        | (refine wpList_append_int rfl _ _ rfl w.heap.size _ (en (l.take k)) rfl ((HQ.out : OwnI wr w.heap.size _ _).alloc _) x _ rfl (by rw [World.cell?_alloc_at _ _ _ _ rfl]; rfl) (by have := HEL.out; omega) (by have := hK.size; simp; omega) ?_; intro u2 w4 ho2 hg2; have K4 : Kp w w4 := (hK.alloc _).grown hg2 (fun q hq => own_lt HQ.out q hq); have HO2 : Hid (OwnI w4 w.heap.size u2 (en (l.take k) ++ [x])) := ho2; have f1 : w4.cell? ⟨b1, o1 + k * 2 + 1, none⟩ = some (.int .i64 y) := K4.held HC1.out; clear ho2 hg2)
        | (refine wpList_append_int rfl _ _ rfl w.heap.size _ (en (l.take k) ++ [x]) rfl ((HO2.out : OwnI w4 w.heap.size _ _).alloc _) y _ rfl (by rw [World.cell?_alloc_at _ _ _ _ rfl]; rfl) (by have := HEL.out; rw [List.length_append]; simp; omega) (by have := K4.size; simp; omega) ?_; intro u3 w5 ho3 hg3; have K5 : Kp w w5 := (K4.alloc _).grown hg3 (fun q hq => own_lt HO2.out q hq); have HO3 : Hid (OwnI w5 w.heap.size u3 (en (l.take (k + 1)))) := (by rw [HT.out]; exact ho3); clear ho3 hg3))
      go_roundw
      case rel => exact ⟨k + 1, by omega, by go_num, HO3, K5⟩
      case measure => simp [intOf]; omega
    · obtain rfl : k = n1 := by omega
      have HF : Hid (l.take k = l) := by rw [E1.out]; exact List.take_length
      obtain ⟨w6, hw6⟩ : ∃ w6, w6 = wr := ⟨_, rfl⟩
      rw [HF.out] at HQ
      rw [← hw6] at HQ hK ⊢
      have HQ6 := HQ
      have K6 : Hid (Kp w w6) := hK
      clear hw6 HQ hK HF
      go_wp2
      go_loopw [7, 5] (fun i q wr => ∃ k : Nat, k ≤ n2 ∧ i = .int .i64 k ∧ Hid (OwnI wr w.heap.size q (en l ++ en (m.take k))) ∧ Kp w wr) (fun i _ _ => n2 - (intOf i).toNat)
      case atStart => exact ⟨0, by omega, rfl, by show OwnI _ _ _ (en l ++ []); rw [List.append_nil]; exact HQ6.out, K6⟩
      case round =>
        clear HQ6 K6
        obtain ⟨k, hk, rfl, HQ, hK⟩ := hrel
        by_cases hlt : k < n2
        · obtain rfl := ha2 (by omega)
          have hlt2 : k < m.length := by rw [← E2.out]; exact hlt
          have c0 := H2.out.c0 k hlt2
          have c1 := H2.out.c1 k hlt2
          have d0 := hK.held c0
          have d1 := hK.held c1
          have HT : Hid (en l ++ en (m.take (k + 1)) = ((en l ++ en (m.take k)) ++ [(m.getD k (0, 0)).1]) ++ [(m.getD k (0, 0)).2]) := by rw [take_at m k hlt2, en_app]; simp [en, Hid]
          obtain ⟨p, hp⟩ : ∃ p, p = m.getD k (0, 0) := ⟨_, rfl⟩
          rw [← hp] at d0 d1 HT c1
          have HC1 : Hid (w.cell? ⟨b2, o2 + k * 2 + 1, none⟩ = some (.int .i64 p.2)) := c1
          clear hp hlt2 c0 c1
          obtain ⟨x, y⟩ := p
          simp only at d0 d1
          obtain ⟨L, hL⟩ : ∃ L, L = en l ++ en (m.take k) := ⟨_, rfl⟩
          have hel : L.length ≤ 4000 := by rw [hL, List.length_append, en_len, en_len, List.length_take, ← E1.out]; omega
          have HEL : Hid (L.length ≤ 4000) := hel
          rw [← hL] at HQ HT
          clear hel hL
          go_wp2_with (at_builtin; first
            | (refine wpList_append_int rfl _ _ rfl w.heap.size _ L rfl ((HQ.out : OwnI wr w.heap.size _ _).alloc _) x _ rfl (by rw [World.cell?_alloc_at _ _ _ _ rfl]; rfl) (by have := HEL.out; omega) (by have := hK.size; simp; omega) ?_; intro u2 w4 ho2 hg2; have K4 : Kp w w4 := (hK.alloc _).grown hg2 (fun q hq => own_lt HQ.out q hq); have HO2 : Hid (OwnI w4 w.heap.size u2 (L ++ [x])) := ho2; have f1 : w4.cell? ⟨b2, o2 + k * 2 + 1, none⟩ = some (.int .i64 y) := K4.held HC1.out; clear ho2 hg2)
            | (refine wpList_append_int rfl _ _ rfl w.heap.size _ (L ++ [x]) rfl ((HO2.out : OwnI w4 w.heap.size _ _).alloc _) y _ rfl (by rw [World.cell?_alloc_at _ _ _ _ rfl]; rfl) (by have := HEL.out; rw [List.length_append]; simp; omega) (by have := K4.size; simp; omega) ?_; intro u3 w5 ho3 hg3; have K5 : Kp w w5 := (K4.alloc _).grown hg3 (fun q hq => own_lt HO2.out q hq); have HO3 : Hid (OwnI w5 w.heap.size u3 (en l ++ en (m.take (k + 1)))) := (by rw [HT.out]; exact ho3); clear ho3 hg3))
          go_roundw
          case rel => exact ⟨k + 1, by omega, by go_num, HO3, K5⟩
          case measure => simp [intOf]; omega
        · obtain rfl : k = n2 := by omega
          have HF : Hid (m.take k = m) := by rw [E2.out]; exact List.take_length
          obtain ⟨L, hL⟩ : ∃ L, L = en l ++ en m := ⟨_, rfl⟩
          have HL : Hid (L = en l ++ en m) := hL
          have hlL : L.length ≤ 4000 := by rw [hL, List.length_append, en_len, en_len, ← E1.out, ← E2.out]; omega
          obtain ⟨w7, hw7⟩ : ∃ w7, w7 = wr := ⟨_, rfl⟩
          rw [HF.out, ← hL] at HQ
          rw [← hw7] at HQ hK ⊢
          have hq7 := FI.of HQ.out
          have K7 : Hid (Kp w w7) := hK
          have HM7 : Hid (Mem (fun i => L.getD i 0) L.length L) := Mem.of L
          obtain ⟨n, hn⟩ : ∃ n, n = L.length := ⟨_, rfl⟩
          rw [← hn] at hq7 HM7 hlL
          obtain ⟨a, cap, hva, hnc, hcm, hag⟩ := hq7.shape
          clear HQ
          subst hva
          have HQ7 : Hid (FI w7 w.heap.size (.slice a n cap) n (fun i => L.getD i 0)) := hq7
          clear hw7 hK HF hL hn hq7
          go_wp2
          go_loopw [8] (fun i wr => ∃ k : Nat, ∃ f : Nat → Int, 1 ≤ k ∧ (k ≤ n ∨ k = 1) ∧ i = .int .i64 k ∧ Hid (FI wr w.heap.size (.slice a n cap) n f) ∧ Hid (Srt f k ∧ Mem f n L) ∧ Kp w wr) (fun i _ => n - (intOf i).toNat)
          case atStart => exact ⟨1, _, by omega, .inr rfl, rfl, HQ7, ⟨fun p q h1 h2 => by omega, HM7⟩, K7⟩
          case round =>
            clear HQ7 K7 HM7
            obtain ⟨i, f, hi1, hi2, rfl, HQ, HS, hK⟩ := hrel
            by_cases hlt : i < n
            · obtain ⟨g, rfl, hgb⟩ := hag (by omega)
              obtain ⟨w8, hw8⟩ : ∃ w8, w8 = wr := ⟨_, rfl⟩
              rw [← hw8] at HQ hK ⊢
              clear hw8
              have HS0 : Hid (Srk f i i ∧ Mem f n L) := ⟨Srk.start HS.out.1, HS.out.2⟩
              clear HS
              go_wp2
              go_loopw [9] (fun q wr => ∃ k : Nat, ∃ f : Nat → Int, k ≤ i ∧ q = .int .i64 k ∧ Hid (FI wr w.heap.size (.slice (some ⟨g, 0, none⟩) n cap) n f) ∧ Hid (Srk f i k ∧ Mem f n L) ∧ Kp w wr) (fun q _ => (intOf q).toNat)
              case atStart => exact ⟨i, f, by omega, rfl, HQ, HS0, hK⟩
              case round =>
                clear HQ HS0 hK
                obtain ⟨k, f, hki, rfl, HQ, HS, hK⟩ := hrel
                by_cases hk0 : 0 < k
                · have c0 := HQ.out.at k (by omega)
                  have c1 := HQ.out.at (k - 1) (by omega)
                  have fz := HQ.out.z
                  have i1 : ((k - 1 : Nat) : Int) = (k : Int) - 1 := by omega
                  have i2 : ((k : Int) - 1).toNat = k - 1 := by omega
                  have i3 : (0 : Int) < (k : Int) := by omega
                  have i4 : (k : Int) < (n : Int) := by omega
                  have i5 : (k : Int) - 1 < (n : Int) := by omega
                  have i6 : (0 : Int) ≤ (k : Int) - 1 := by omega
                  by_cases hsw : f k < f (k - 1)
                  · have HSn : Hid (Srk (swp f k) i (k - 1) ∧ Mem (swp f k) n L) := ⟨HS.out.1.step hk0 hki hsw, HS.out.2.swap hk0 (by omega)⟩
                    have HFI : Hid (∀ W, Kp wr W → FI ((W.setCell ⟨g, k, none⟩ (.int .i64 (f (k - 1)))).setCell ⟨g, k - 1, none⟩ (.int .i64 (f k))) w.heap.size (.slice (some ⟨g, 0, none⟩) n cap) n (swp f k) ∧ Kp w ((W.setCell ⟨g, k, none⟩ (.int .i64 (f (k - 1)))).setCell ⟨g, k - 1, none⟩ (.int .i64 (f k)))) := fun W kW => by
                      refine ⟨(((HQ.out.kept kW).set k (f (k - 1))).set (k - 1) (f k)).congr (fun j => rfl), ((hK.trans kW).setB hgb _).setB hgb _⟩
                    have HZ : Hid (∀ W, Kp wr W → ∀ o, W.frozen? ⟨g, o, none⟩ = false) := fun W kW o => (HQ.out.kept kW).z o
                    obtain ⟨X, hX⟩ : ∃ X, X = f k := ⟨_, rfl⟩
                    obtain ⟨Y, hY⟩ : ∃ Y, Y = f (k - 1) := ⟨_, rfl⟩
                    rw [← hX] at c0 hsw HFI
                    rw [← hY] at c1 hsw HFI
                    have HK : Hid (Kp w wr) := hK
                    clear HS HQ hX hY hK
                    go_wp2_with fail
                    go_quiet (fail)
                    obtain ⟨W, hW⟩ : ∃ W, W = wr.drewN nq := ⟨_, rfl⟩
                    have kW : Kp wr W := by rw [hW]; exact (Kp.refl wr).drewN _
                    rw [← hW]
                    have d0 := kW.held c0
                    have d1 := kW.held c1
                    have dz := HZ.out W kW
                    have HR : Hid (FI ((W.setCell ⟨g, k, none⟩ (.int .i64 Y)).setCell ⟨g, k - 1, none⟩ (.int .i64 X)) w.heap.size (.slice (some ⟨g, 0, none⟩) n cap) n (swp f k) ∧ Kp w ((W.setCell ⟨g, k, none⟩ (.int .i64 Y)).setCell ⟨g, k - 1, none⟩ (.int .i64 X))) := HFI.out W kW
                    clear hW kW c0 c1 fz HZ HFI HK
                    go_wp2
                    go_roundw
                    case rel => exact ⟨k - 1, swp f k, by omega, by rw [i1], HR.out.1, HSn, HR.out.2⟩
                    case measure => simp [intOf]; omega
                  · have HSd : Hid (Srt f (i + 1) ∧ Mem f n L) := ⟨HS.out.1.done hki (fun _ => by omega), HS.out.2⟩
                    have hsw2 : decide (f k < f (k - 1)) = false := decide_eq_false hsw
                    obtain ⟨X, hX⟩ : ∃ X, X = f k := ⟨_, rfl⟩
                    obtain ⟨Y, hY⟩ : ∃ Y, Y = f (k - 1) := ⟨_, rfl⟩
                    rw [← hX] at c0 hsw2
                    rw [← hY] at c1 hsw2
                    clear HS hX hY hsw
                    go_wp2_with fail
                    go_quiet (fail)
                    go_wp2
                    go_roundw
                    case rel => exact ⟨i + 1, f, by omega, by omega, by go_num, HQ.out.kept ((Kp.refl _).drewN _), HSd, hK.drewN _⟩
                    case measure => simp [intOf]; omega
                · obtain rfl : k = 0 := by omega
                  have HSd : Hid (Srt f (i + 1) ∧ Mem f n L) := ⟨HS.out.1.done hki (fun h => absurd h (by omega)), HS.out.2⟩
                  have i3 : decide ((0 : Int) < 0) = false := rfl
                  clear HS
                  go_wp2_with fail
                  go_quiet (fail)
                  go_wp2
                  go_roundw
                  case rel => exact ⟨i + 1, f, by omega, by omega, by go_num, HQ.out.kept ((Kp.refl _).drewN _), HSd, hK.drewN _⟩
                  case measure => simp [intOf]; omega
            · have HS9 : Hid (Srt f n ∧ Mem f n L) := ⟨fun p q h1 h2 => HS.out.1 p q h1 (by omega), HS.out.2⟩
              obtain ⟨w9, hw9⟩ : ∃ w9, w9 = wr := ⟨_, rfl⟩
              rw [← hw9] at HQ hK ⊢
              have K9 : Hid (Kp w w9) := hK
              clear hw9 HS hK
              go_wp2
              go_loopw [12, 11] (fun q v wr => ∃ k : Nat, ∃ E : List Int, k ≤ n ∧ q = .int .i64 k ∧ Hid (OwnI wr w9.heap.size v E) ∧ Hid (Dst f k E) ∧ Kp w9 wr) (fun q _ _ => n - (intOf q).toNat)
              case atStart => exact ⟨0, [], by omega, rfl, World.ownsRow_nil _ _ _ _, ⟨List.Pairwise.nil, fun x => by simp, by simp⟩, Kp.refl w9⟩
              case round =>
                obtain ⟨k, E, hk, rfl, HO, HD, hK⟩ := hrel
                by_cases hlt2 : k < n
                · obtain ⟨g, rfl, hgb⟩ := hag (by omega)
                  have c0 := hK.held (HQ.out.at k hlt2)
                  have hEl : E.length ≤ 4000 := by have := HD.out.len; omega
                  by_cases hk0 : k = 0
                  · subst hk0
                    have HD2 : Hid (Dst f (0 + 1) (E ++ [f 0])) := HD.out.add HS9.out.1 hlt2 (.inl rfl)
                    have i3 : ((0 : Int) == 0) = true := rfl
                    obtain ⟨X, hX⟩ : ∃ X, X = f 0 := ⟨_, rfl⟩
                    rw [← hX] at c0 HD2
                    have HC0 : Hid (wr.cell? ⟨g, 0, none⟩ = some (.int .i64 X)) := c0
                    clear hX HD
                    go_wp2_with fail
                    go_quiet (fail)
                    obtain ⟨W, hW⟩ : ∃ W, W = wr.drewN nq := ⟨_, rfl⟩
                    have kW : Kp wr W := by rw [hW]; exact (Kp.refl wr).drewN _
                    rw [← hW]
                    have d0 := kW.held c0
                    have KW : Kp w9 W := hK.trans kW
                    have HOW : Hid (OwnI W w9.heap.size _ E) := HO.out.kept kW
                    clear hW kW c0 hK HC0
                    go_wp2_with (at_builtin; refine wpList_append_int rfl _ _ rfl w9.heap.size _ E rfl (HOW.out.alloc _) X _ rfl (by rw [World.cell?_alloc_at _ _ _ _ rfl]; rfl) (by omega) (by have := KW.size; simp; omega) ?_; intro u2 w4 ho2 hg2; have K4 : Kp w9 w4 := (KW.alloc _).grown hg2 (fun q hq => own_lt HOW.out q hq); have HO2 : Hid (OwnI w4 w9.heap.size u2 (E ++ [X])) := ho2; clear ho2 hg2)
                    go_roundw
                    case rel => exact ⟨0 + 1, E ++ [X], by omega, by go_num, HO2, HD2, K4⟩
                    case measure => simp [intOf]; omega
                  · have c1 := hK.held (HQ.out.at (k - 1) (by omega))
                    have i1 : ((k - 1 : Nat) : Int) = (k : Int) - 1 := by omega
                    have i2 : ((k : Int) - 1).toNat = k - 1 := by omega
                    have i3 : ((k : Int) == 0) = false := beq_eq_false_iff_ne.2 (by omega)
                    have i4 : (k : Int) < (n : Int) := by omega
                    have i5 : (k : Int) - 1 < (n : Int) := by omega
                    have i6 : (0 : Int) ≤ (k : Int) - 1 := by omega
                    by_cases hne : f k = f (k - 1)
                    · have HD2 : Hid (Dst f (k + 1) E) := HD.out.skip (by omega) hne
                      rw [hne] at c0
                      obtain ⟨X, hX⟩ : ∃ X, X = f (k - 1) := ⟨_, rfl⟩
                      rw [← hX] at c0 c1
                      clear hX HD hne
                      go_wp2_with fail
                      go_quiet (fail)
                      go_wp2
                      go_roundw
                      case rel => exact ⟨k + 1, E, by omega, by go_num, HO.out.kept ((Kp.refl _).drewN _), HD2, hK.drewN _⟩
                      case measure => simp [intOf]; omega
                    · have HD2 : Hid (Dst f (k + 1) (E ++ [f k])) := HD.out.add HS9.out.1 hlt2 (.inr hne)
                      obtain ⟨X, hX⟩ : ∃ X, X = f k := ⟨_, rfl⟩
                      obtain ⟨Y, hY⟩ : ∃ Y, Y = f (k - 1) := ⟨_, rfl⟩
                      rw [← hX] at c0 HD2 hne
                      rw [← hY] at c1 hne
                      have hne2 : (X == Y) = false := beq_eq_false_iff_ne.2 hne
                      clear hX hY HD
                      go_wp2_with fail
                      go_quiet (fail)
                      obtain ⟨W, hW⟩ : ∃ W, W = wr.drewN nq := ⟨_, rfl⟩
                      have kW : Kp wr W := by rw [hW]; exact (Kp.refl wr).drewN _
                      rw [← hW]
                      have d0 := kW.held c0
                      have KW : Kp w9 W := hK.trans kW
                      have HOW : Hid (OwnI W w9.heap.size _ E) := HO.out.kept kW
                      clear hW kW c0 hK c1
                      go_wp2_with (at_builtin; refine wpList_append_int rfl _ _ rfl w9.heap.size _ E rfl (HOW.out.alloc _) X _ rfl (by rw [World.cell?_alloc_at _ _ _ _ rfl]; rfl) (by omega) (by have := KW.size; simp; omega) ?_; intro u2 w4 ho2 hg2; have K4 : Kp w9 w4 := (KW.alloc _).grown hg2 (fun q hq => own_lt HOW.out q hq); have HO2 : Hid (OwnI w4 w9.heap.size u2 (E ++ [X])) := ho2; clear ho2 hg2)
                      go_roundw
                      case rel => exact ⟨k + 1, E ++ [X], by omega, by go_num, HO2, HD2, K4⟩
                      case measure => simp [intOf]; omega
                · obtain rfl : k = n := by omega
                  go_wp2
                  go_ret
                  have hD := HD.out
                  refine ⟨_, E, rfl, HO.out.ints, hD.inc, fun x => ?_, by have := hD.len; omega, K9.out.trans hK⟩
                  rw [hD.mem x, HS9.out.2 x, HL.out]

theorem ends_any (v1 v2 : Value) (l m : List (Int × Int)) (w : World) (h1 : SpIn w v1 l) (h2 : SpIn w v2 m) (hl1 : l.length ≤ 1000) (hl2 : m.length ≤ 1000) :
    Calls Try.prog 36 #[v1, v2] w fun e w' => ∃ u E, e = .returned u ∧ InI w' u E ∧ E.Pairwise (· < ·) ∧ (∀ x, x ∈ E ↔ x ∈ en l ++ en m) ∧ E.length ≤ 4000 ∧ Kp w w' := by
  obtain ⟨a1, b1, o1, p1, rfl, h1⟩ := h1
  obtain ⟨a2, b2, o2, p2, rfl, h2⟩ := h2
  exact ends_at a1 b1 o1 p1 a2 b2 o2 p2 l m w h1 h2 hl1 hl2

end Go.Proofs.Ytmkmejdbhikomaa
