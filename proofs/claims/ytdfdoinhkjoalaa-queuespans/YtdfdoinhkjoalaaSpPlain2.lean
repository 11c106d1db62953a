/-
  Plain facts on lists of spans, more: what Cut, Meet, Gaps and Join come to, how many places a list has (tot, cnt), the pieces of a span (spl). No condition.
-/
import Derived.Test.YtdfdoinhkjoalaaSpPlain
namespace Go.Proofs.Ytdfdoinhkjoalaa.Plain
set_option linter.unusedVariables false

/-! ### pieces of which something is left -/
def pt (p : (Int × Int)) : List (Int × Int) := if gd p = true then [p] else []
theorem hs_pt (p : (Int × Int)) (h0 : 0 ≤ p.1) (h1 : p.2 ≤ mA) (x : Int) : hs (pt p) x = inS p x := by
  unfold pt
  split
  · exact hs_single p x
  · rename_i h
    rw [gd_iff] at h
    have : inS p x = false := by
      rw [Bool.eq_false_iff, ne_eq, inS_iff]
      omega
    rw [this]; rfl
theorem pt_bad (p : (Int × Int)) (h : p.2 ≤ p.1) : pt p = [] := if_neg (by rw [gd_iff]; omega)
theorem pt_good {p : (Int × Int)} (h : gd p = true) : pt p = [p] := if_pos h
theorem pt_mem {p q : (Int × Int)} (h : q ∈ pt p) : q = p ∧ gd p = true := by
  unfold pt at h
  split at h
  · rename_i hg
    exact ⟨List.mem_singleton.1 h, hg⟩
  · simp at h
theorem pt_len (p : (Int × Int)) : (pt p).length ≤ 1 := by unfold pt; split <;> simp

/-! ### Cut -/
def pc (s h : (Int × Int)) : List (Int × Int) := pt (h.1, min h.2 s.1) ++ pt (max h.1 s.2, h.2)
def cutL (s : (Int × Int)) (l : List (Int × Int)) : List (Int × Int) := l.flatMap (pc s)
theorem cut_cons (s h : (Int × Int)) (l : List (Int × Int)) : cutL s (h :: l) = pc s h ++ cutL s l := by simp [cutL]
theorem cut_app (s : (Int × Int)) (l m : List (Int × Int)) : cutL s (l ++ m) = cutL s l ++ cutL s m := by simp [cutL]
theorem hs_pc (s h : (Int × Int)) (hs1 : s.1 < s.2) (h0 : 0 ≤ h.1) (h1 : h.2 ≤ mA) (x : Int) (g0 : 0 ≤ s.1) (g1 : s.2 ≤ mA) : hs (pc s h) x = (inS h x && !inS s x) := by
  unfold pc
  rw [hs_app, hs_pt _ (by simpa using h0) (by show min h.2 s.1 ≤ mA; omega), hs_pt _ (by show 0 ≤ max h.1 s.2; omega) (by simpa using h1), Bool.eq_iff_iff, Bool.or_eq_true, Bool.and_eq_true, Bool.not_eq_true', ← Bool.not_eq_true, inS_iff, inS_iff, inS_iff, inS_iff]
  show (h.1 ≤ x ∧ x < min h.2 s.1) ∨ (max h.1 s.2 ≤ x ∧ x < h.2) ↔ _
  omega
theorem cut_hs (s : (Int × Int)) (hg : gd s = true) (x : Int) : ∀ l : List (Int × Int), (∀ p ∈ l, 0 ≤ p.1 ∧ p.1 < p.2 ∧ p.2 ≤ mA) → hs (cutL s l) x = (hs l x && !inS s x)
  | [], _ => rfl
  | h :: l, hl => by
    obtain ⟨g1, g2, g3⟩ := (gd_iff s).1 hg
    have a := hl h (by simp)
    rw [cut_cons, hs_app, cut_hs s hg x l (fun p hp => hl p (by simp [hp])), hs_pc s h g2 a.1 a.2.2 x g1 g3, hs_cons]
    cases inS h x <;> cases hs l x <;> cases inS s x <;> rfl
theorem pc_nb (s h : (Int × Int)) (hs1 : s.1 < s.2) {e : Int} (h1 : e < h.1) (h2 : h.1 < h.2) : Nb e (pc s h) ∧ ∀ p ∈ pc s h, p.2 ≤ h.2 := by
  refine ⟨?_, fun p hp => ?_⟩
  · unfold pc
    by_cases c : gd (h.1, min h.2 s.1) = true
    · have c1 := (gd_iff _).1 c
      have c2 : h.1 < min h.2 s.1 := c1.2.1
      rw [pt_good c]
      refine ⟨h1, c2, ?_⟩
      unfold pt
      split
      · rename_i d
        exact ⟨by show min h.2 s.1 < max h.1 s.2; omega, ((gd_iff _).1 d).2.1, trivial⟩
      · trivial
    · rw [show pt (h.1, min h.2 s.1) = [] from if_neg c]
      show Nb e (pt (max h.1 s.2, h.2))
      unfold pt
      split
      · rename_i d
        exact ⟨by show e < max h.1 s.2; omega, ((gd_iff _).1 d).2.1, trivial⟩
      · trivial
  · rcases List.mem_append.1 hp with hp | hp
    · rw [(pt_mem hp).1]; show min h.2 s.1 ≤ h.2; omega
    · rw [(pt_mem hp).1]; exact Int.le_refl _
theorem cut_nb (s : (Int × Int)) (hs1 : s.1 < s.2) : ∀ (l : List (Int × Int)) (e : Int), Nb e l → Nb e (cutL s l)
  | [], _, _ => trivial
  | h :: l, e, hn => by
    obtain ⟨a, b⟩ := pc_nb s h hs1 hn.1 hn.2.1
    rw [cut_cons]
    exact a.append (cut_nb s hs1 l h.2 hn.2.2) b (by have := hn.1; have := hn.2.1; omega)
theorem cut_ok {l : List (Int × Int)} (hG : G l) {s : (Int × Int)} (hg : gd s = true) : G (cutL s l) ∧ ∀ x, hs (cutL s l) x = (hs l x && !inS s x) := by
  have hx : ∀ x, hs (cutL s l) x = (hs l x && !inS s x) := fun x => cut_hs s hg x l hG.lo
  refine ⟨G.of_hs (cut_nb s ((gd_iff s).1 hg).2.1 l (-1) hG.nb) (fun x h => ?_), hx⟩
  rw [hx, Bool.and_eq_true] at h
  exact hG.places h.1
theorem cut_id (s : (Int × Int)) : ∀ l : List (Int × Int), (∀ q ∈ l, pc s q = [q]) → cutL s l = l
  | [], _ => rfl
  | h :: l, hl => by rw [cut_cons, hl h (by simp), cut_id s l (fun q hq => hl q (by simp [hq]))]; rfl
theorem cut_mid {l : List (Int × Int)} (hG : G l) {s : (Int × Int)} (hg : gd s = true) {i j : Nat} (h : Mid l s i j) : cutL s l = l.take i ++ (cutL s ((l.take j).drop i) ++ l.drop j) := by
  obtain ⟨g1, g2, g3⟩ := (gd_iff s).1 hg
  have e : cutL s l = cutL s (l.take i ++ ((l.take j).drop i ++ l.drop j)) := by rw [← h.ahead_mid]
  rw [e, cut_app, cut_app, cut_id s (l.take i) (fun q hq => ?_), cut_id s (l.drop j) (fun q hq => ?_)]
  · have a := hG.lo q (List.mem_of_mem_drop hq)
    have b := h.behind q hq
    unfold pc
    rw [pt_bad _ (by show min q.2 s.1 ≤ q.1; omega), show max q.1 s.2 = q.1 by omega, pt_good (hG.gd q (List.mem_of_mem_drop hq))]
    rfl
  · have a := hG.lo q (List.mem_of_mem_take hq)
    have b := h.ahead q hq
    unfold pc
    rw [show min q.2 s.1 = q.2 by omega, pt_good (hG.gd q (List.mem_of_mem_take hq)), pt_bad _ (by show q.2 ≤ max q.1 s.2; omega)]
    rfl
theorem cut_len (s : (Int × Int)) : ∀ l : List (Int × Int), (cutL s l).length ≤ 2 * l.length
  | [] => by simp [cutL]
  | h :: l => by
    have := cut_len s l
    have a := pt_len (h.1, min h.2 s.1)
    have b := pt_len (max h.1 s.2, h.2)
    rw [cut_cons, List.length_append, pc, List.length_append, List.length_cons]
    omega

/-! ### Meet -/
def mt (s h : (Int × Int)) : (Int × Int) := (max h.1 s.1, min h.2 s.2)
theorem hs_mt (s h : (Int × Int)) (x : Int) : inS (mt s h) x = (inS h x && inS s x) := by
  rw [Bool.eq_iff_iff, Bool.and_eq_true, inS_iff, inS_iff, inS_iff]
  show max h.1 s.1 ≤ x ∧ x < min h.2 s.2 ↔ _
  omega
theorem hs_map_mt (s : (Int × Int)) (x : Int) : ∀ l : List (Int × Int), hs (l.map (mt s)) x = (hs l x && inS s x)
  | [] => rfl
  | h :: l => by
    rw [List.map_cons, hs_cons, hs_cons, hs_map_mt s x l, hs_mt]
    cases inS h x <;> cases hs l x <;> cases inS s x <;> rfl
theorem nb_map_mt (s : (Int × Int)) : ∀ (l : List (Int × Int)) (e : Int), Nb e l → s.1 < s.2 → (∀ q ∈ l, s.1 < q.2 ∧ q.1 < s.2) → Nb e (l.map (mt s))
  | [], _, _, _, _ => trivial
  | h :: l, e, hn, h1, hq => by
    have a := hq h (by simp)
    have b := hn.1
    have c := hn.2.1
    refine ⟨by show e < max h.1 s.1; omega, by show max h.1 s.1 < min h.2 s.2; omega, ?_⟩
    exact (nb_map_mt s l h.2 hn.2.2 h1 (fun q hq' => hq q (by simp [hq']))).weak (by show min h.2 s.2 ≤ h.2; omega)
theorem met_ok {l : List (Int × Int)} (hG : G l) {s : (Int × Int)} (hg : gd s = true) {i j : Nat} (h : Mid l s i j) : G (((l.take j).drop i).map (mt s)) ∧ ∀ x, hs (((l.take j).drop i).map (mt s)) x = (hs l x && inS s x) := by
  obtain ⟨g1, g2, g3⟩ := (gd_iff s).1 hg
  have hx : ∀ x, hs (((l.take j).drop i).map (mt s)) x = (hs l x && inS s x) := fun x => by
    have e3 : hs l x = (hs (l.take i) x || (hs ((l.take j).drop i) x || hs (l.drop j) x)) := by
      rw [← hs_app, ← hs_app, ← h.ahead_mid]
    have n1 : (hs (l.take i) x && inS s x) = false := by
      rw [Bool.eq_false_iff, ne_eq, Bool.and_eq_true, hs_iff, inS_iff]
      rintro ⟨⟨q, hq, h1, h2⟩, h3⟩
      have := h.ahead q hq
      omega
    have n2 : (hs (l.drop j) x && inS s x) = false := by
      rw [Bool.eq_false_iff, ne_eq, Bool.and_eq_true, hs_iff, inS_iff]
      rintro ⟨⟨q, hq, h1, h2⟩, h3⟩
      have := h.behind q hq
      omega
    rw [hs_map_mt, e3]
    revert n1 n2
    cases hs (l.take i) x <;> cases hs ((l.take j).drop i) x <;> cases hs (l.drop j) x <;> cases inS s x <;> simp
  refine ⟨G.of_hs (nb_map_mt s _ (-1) ((hG.nb.take j).drop i) g2 h.mid) (fun x hh => ?_), hx⟩
  rw [hx, Bool.and_eq_true] at hh
  exact hG.places hh.1

/-! ### Gaps -/
def gapL : (Int × Int) → List (Int × Int) → List (Int × Int)
  | s, [] => pt s
  | s, h :: l => pt (s.1, min s.2 h.1) ++ gapL (max s.1 h.2, s.2) l
theorem gap_hs (x : Int) : ∀ (l : List (Int × Int)) (s : (Int × Int)) (e : Int), Nb e l → 0 ≤ s.1 → s.2 ≤ mA → hs (gapL s l) x = (inS s x && !hs l x)
  | [], s, _, _, h0, h1 => by simp [gapL, hs_pt s h0 h1, hs]
  | h :: l, s, e, hn, h0, h1 => by
    have c := hn.2.1
    have lo : hs l x = true → h.2 < x := fun hh => hn.2.2.low hh
    rw [gapL, hs_app, hs_pt _ (by simpa using h0) (by show min s.2 h.1 ≤ mA; omega), gap_hs x l _ h.2 hn.2.2 (by show 0 ≤ max s.1 h.2; omega) (by simpa using h1), hs_cons]
    rw [Bool.eq_iff_iff]
    simp only [Bool.or_eq_true, Bool.and_eq_true, Bool.not_eq_true', ← Bool.not_eq_true, inS_iff]
    cases hl : hs l x with
    | true => have := lo hl; simp; omega
    | false => simp; omega
theorem gap_nb : ∀ (l : List (Int × Int)) (s : (Int × Int)) (e c : Int), Nb e l → c < s.1 → Nb c (gapL s l)
  | [], s, _, c, _, h => by
    show Nb c (pt s)
    unfold pt
    split
    · rename_i d
      exact ⟨h, ((gd_iff _).1 d).2.1, trivial⟩
    · trivial
  | h :: l, s, e, c, hn, hc => by
    have k := hn.2.1
    rw [gapL]
    by_cases d : gd (s.1, min s.2 h.1) = true
    · have d1 : s.1 < min s.2 h.1 := ((gd_iff _).1 d).2.1
      rw [pt_good d]
      exact ⟨hc, d1, gap_nb l _ h.2 (min s.2 h.1) hn.2.2 (by show min s.2 h.1 < max s.1 h.2; omega)⟩
    · rw [show pt (s.1, min s.2 h.1) = [] from if_neg d]
      exact gap_nb l _ h.2 c hn.2.2 (by show c < max s.1 h.2; omega)
theorem gap_ok {l : List (Int × Int)} (hG : G l) {s : (Int × Int)} (hg : gd s = true) : G (gapL s l) ∧ ∀ x, hs (gapL s l) x = (inS s x && !hs l x) := by
  obtain ⟨g1, g2, g3⟩ := (gd_iff s).1 hg
  have hx : ∀ x, hs (gapL s l) x = (inS s x && !hs l x) := fun x => gap_hs x l s (-1) hG.nb g1 g3
  refine ⟨G.of_hs (gap_nb l s (-1) (-1) hG.nb (by omega)) (fun x h => ?_), hx⟩
  rw [hx, Bool.and_eq_true, inS_iff] at h
  omega
theorem gap_ahead : ∀ (A l : List (Int × Int)) (s : (Int × Int)), (∀ q ∈ A, q.1 < q.2 ∧ q.2 ≤ s.1) → gapL s (A ++ l) = gapL s l
  | [], l, s, _ => rfl
  | h :: A, l, s, hA => by
    have a := hA h (by simp)
    rw [List.cons_append, gapL, pt_bad _ (by show min s.2 h.1 ≤ s.1; omega), show max s.1 h.2 = s.1 by omega]
    exact gap_ahead A l s (fun q hq => hA q (by simp [hq]))
theorem gap_bad : ∀ (l : List (Int × Int)) (s : (Int × Int)), s.2 ≤ s.1 → gapL s l = []
  | [], s, h => pt_bad s h
  | h :: l, s, hb => by
    rw [gapL, pt_bad _ (by show min s.2 h.1 ≤ s.1; omega), gap_bad l _ (by show s.2 ≤ max s.1 h.2; omega)]
    rfl
theorem gap_behind (C : List (Int × Int)) : ∀ (l : List (Int × Int)) (s : (Int × Int)), (∀ q ∈ C, s.2 ≤ q.1 ∧ q.1 < q.2) → gapL s (l ++ C) = gapL s l
  | [], s, hC => by
    cases C with
    | nil => rfl
    | cons h C =>
      have a := hC h (by simp)
      rw [List.nil_append, show gapL s (h :: C) = pt (s.1, min s.2 h.1) ++ gapL (max s.1 h.2, s.2) C from rfl, show min s.2 h.1 = s.2 by omega, gap_bad C _ (by show s.2 ≤ max s.1 h.2; omega), List.append_nil]
      rfl
  | h :: l, s, hC => by rw [List.cons_append, gapL, gapL, gap_behind C l (max s.1 h.2, s.2) hC]
theorem gap_mid {l : List (Int × Int)} (hG : G l) {s : (Int × Int)} {i j : Nat} (h : Mid l s i j) : gapL s l = gapL s ((l.take j).drop i) := by
  have e : gapL s l = gapL s (l.take i ++ ((l.take j).drop i ++ l.drop j)) := by rw [← h.ahead_mid]
  rw [e, gap_ahead _ _ _ (fun q hq => ⟨(hG.lo q (List.mem_of_mem_take hq)).2.1, h.ahead q hq⟩), gap_behind _ _ _ (fun q hq => ⟨h.behind q hq, (hG.lo q (List.mem_of_mem_drop hq)).2.1⟩)]
theorem gap_len : ∀ (l : List (Int × Int)) (s : (Int × Int)), (gapL s l).length ≤ l.length + 1
  | [], s => by have := pt_len s; simpa [gapL] using this
  | h :: l, s => by
    have := gap_len l (max s.1 h.2, s.2)
    have b := pt_len (s.1, min s.2 h.1)
    rw [gapL, List.length_append, List.length_cons]
    omega

/-! ### a span that begins no earlier than the last one -/
def lastS (J : List (Int × Int)) : (Int × Int) := J.getD (J.length - 1) (0, 0)
def strL (J : List (Int × Int)) (s : (Int × Int)) : List (Int × Int) := if J.length = 0 ∨ (lastS J).2 < s.1 then J ++ [s] else J.set (J.length - 1) ((lastS J).1, max (lastS J).2 s.2)
theorem last_split (J : List (Int × Int)) (h : J.length ≠ 0) : ∃ K, J = K ++ [lastS J] ∧ ∀ z, J.set (J.length - 1) z = K ++ [z] := by
  obtain ⟨K, z, rfl⟩ : ∃ K z, J = K ++ [z] := ⟨J.dropLast, J.getLast (by intro e; rw [e] at h; exact h rfl), (List.dropLast_concat_getLast _).symm⟩
  have e : lastS (K ++ [z]) = z := by simp [lastS]
  exact ⟨K, by rw [e], fun y => by simp⟩
theorem str_ok {e : Int} {J : List (Int × Int)} (hn : Nb e J) {s : (Int × Int)} (h1 : e < s.1) (h2 : s.1 < s.2) (h3 : ∀ p ∈ J, p.1 ≤ s.1) :
    Nb e (strL J s) ∧ (∀ x, hs (strL J s) x = (hs J x || inS s x)) ∧ (∀ p ∈ strL J s, p.1 ≤ s.1) ∧ (∀ c, (∀ p ∈ J, p.2 ≤ c) → s.2 ≤ c → ∀ p ∈ strL J s, p.2 ≤ c) ∧ (strL J s).length ≤ J.length + 1 ∧ 0 < (strL J s).length := by
  unfold strL
  split
  · rename_i h
    have hlow : ∀ p ∈ J, p.2 ≤ s.1 - 1 := fun p hp => by
      rcases h with h | h
      · rw [List.eq_nil_of_length_eq_zero h] at hp; simp at hp
      · by_cases h0 : J.length = 0
        · rw [List.eq_nil_of_length_eq_zero h0] at hp; simp at hp
        · obtain ⟨K, hK, _⟩ := last_split J h0
          rw [hK] at hn hp
          rcases List.mem_append.1 hp with hp | hp
          · have a := hn.sep p hp _ (List.mem_singleton.2 rfl)
            have b := hn.mem (lastS J) (by simp)
            omega
          · rw [List.mem_singleton.1 hp]; omega
    refine ⟨hn.append (c := s.1 - 1) ⟨by omega, h2, trivial⟩ hlow (by omega), fun x => by rw [hs_app, hs_single], fun p hp => ?_, fun c hc hsc p hp => ?_, by simp, by simp⟩
    · rcases List.mem_append.1 hp with hp | hp
      · exact h3 p hp
      · rw [List.mem_singleton.1 hp]; exact Int.le_refl _
    · rcases List.mem_append.1 hp with hp | hp
      · exact hc p hp
      · rw [List.mem_singleton.1 hp]; exact hsc
  · rename_i h
    have h0 : J.length ≠ 0 := fun e => h (.inl e)
    have h4 : s.1 ≤ (lastS J).2 := Int.not_lt.1 (fun e => h (.inr e))
    obtain ⟨K, hK, hset⟩ := last_split J h0
    obtain ⟨z, hz⟩ : ∃ z, z = lastS J := ⟨_, rfl⟩
    rw [← hz] at hK h4 ⊢
    have hlen : J.length = K.length + 1 := by rw [hK]; simp
    rw [hset]
    have hn2 := hn
    rw [hK] at hn2
    have az := hn2.mem z (by simp)
    have bz := h3 z (by rw [hK]; simp)
    refine ⟨(hn2.left).append (c := z.1 - 1) ⟨by show z.1 - 1 < z.1; omega, by show z.1 < max z.2 s.2; omega, trivial⟩ (fun p hp => by have := hn2.sep p hp z (by simp); omega) (by omega), fun x => ?_, fun p hp => ?_, fun c hc hsc p hp => ?_, by simp; omega, by simp⟩
    · rw [hK, hs_app, hs_app, hs_single, hs_single, Bool.or_assoc]
      congr 1
      rw [Bool.eq_iff_iff, Bool.or_eq_true, inS_iff, inS_iff, inS_iff]
      show z.1 ≤ x ∧ x < max z.2 s.2 ↔ _
      omega
    · rcases List.mem_append.1 hp with hp | hp
      · exact h3 p (by rw [hK]; simp [hp])
      · rw [List.mem_singleton.1 hp]; exact bz
    · rcases List.mem_append.1 hp with hp | hp
      · exact hc p (by rw [hK]; simp [hp])
      · rw [List.mem_singleton.1 hp]
        have := hc z (by rw [hK]; simp)
        show max z.2 s.2 ≤ c
        omega

/-! ### how many places -/
def tot : List (Int × Int) → Int
  | [] => 0
  | p :: l => p.2 - p.1 + tot l
theorem tot_app : ∀ l m : List (Int × Int), tot (l ++ m) = tot l + tot m
  | [], m => by simp [tot]
  | p :: l, m => by rw [List.cons_append, tot, tot, tot_app l m]; omega
def cnt (f : Int → Bool) : Nat → Int
  | 0 => 0
  | n + 1 => cnt f n + if f (n : Int) = true then 1 else 0
theorem cnt_add (f g h : Int → Bool) (hf : ∀ x, f x = (g x || h x)) (hd : ∀ x, (g x && h x) = false) : ∀ n, cnt f n = cnt g n + cnt h n
  | 0 => rfl
  | n + 1 => by
    have a := hf n
    have b := hd n
    rw [cnt, cnt, cnt, cnt_add f g h hf hd n, a]
    revert b
    cases g n <;> cases h n <;> simp <;> omega
theorem cnt_none (f : Int → Bool) : ∀ n : Nat, (∀ x : Int, x < n → f x = false) → cnt f n = 0
  | 0, _ => rfl
  | n + 1, h => by rw [cnt, cnt_none f n (fun x hx => h x (by omega)), h n (by omega)]; rfl
theorem cnt_span (s : (Int × Int)) (h0 : 0 ≤ s.1) (h1 : s.1 ≤ s.2) : ∀ n : Nat, cnt (inS s) n = max 0 (min s.2 n - s.1)
  | 0 => by show (0 : Int) = _; omega
  | n + 1 => by
    rw [cnt, cnt_span s h0 h1 n]
    by_cases c : inS s n = true
    · rw [if_pos c]
      rw [inS_iff] at c
      omega
    · rw [if_neg c]
      rw [inS_iff] at c
      omega
theorem tot_cnt (n : Nat) : ∀ (l : List (Int × Int)) (e : Int), -1 ≤ e → Nb e l → (∀ p ∈ l, p.2 ≤ n) → tot l = cnt (hs l) n
  | [], _, _, _, _ => (cnt_none _ n (fun _ _ => rfl)).symm
  | p :: l, e, he, hn, hp => by
    have a := hn.1
    have b := hn.2.1
    have c := hp p (by simp)
    rw [tot, tot_cnt n l p.2 (by omega) hn.2.2 (fun q hq => hp q (by simp [hq])), cnt_add (hs (p :: l)) (inS p) (hs l) (fun x => hs_cons p l x) (fun x => ?_), cnt_span p (by omega) (by omega)]
    · omega
    · cases hl : hs l x with
      | false => simp
      | true =>
        have := hn.2.2.low hl
        rw [Bool.and_true, Bool.eq_false_iff, ne_eq, inS_iff]
        omega
def mN : Nat := 1099511627776
theorem G.tot {l : List (Int × Int)} (h : G l) : tot l = cnt (hs l) mN := tot_cnt mN l (-1) (by omega) h.nb h.hi
theorem gd_cnt {s : (Int × Int)} (h : gd s = true) : cnt (inS s) mN = s.2 - s.1 := by
  obtain ⟨g1, g2, g3⟩ := (gd_iff s).1 h
  rw [cnt_span s g1 (by omega)]
  have : s.2 ≤ (mN : Nat) := g3
  omega
theorem tot_le : ∀ (l : List (Int × Int)) (e : Int), Nb e l → ∀ c, e ≤ c → (∀ p ∈ l, p.2 ≤ c) → 0 ≤ tot l ∧ tot l ≤ c - e
  | [], e, _, c, h, _ => by simp [tot]; omega
  | p :: l, e, hn, c, h, hp => by
    have a := hn.1
    have b := hn.2.1
    have d := hp p (by simp)
    have := tot_le l p.2 hn.2.2 c d (fun q hq => hp q (by simp [hq]))
    rw [tot]
    omega

/-! ### the pieces of a span -/
def spl (part to : Int) : Nat → Int → List (Int × Int)
  | 0, _ => []
  | n + 1, x => if x < to then (x, min to (x - x % part + part)) :: spl part to n (min to (x - x % part + part)) else []
theorem spl_end (part to : Int) (n : Nat) (x : Int) (h : ¬ x < to) : spl part to n x = [] := by
  cases n with
  | zero => rfl
  | succ n => exact if_neg h
theorem part_next (part x : Int) (hp : 1 ≤ part) (hx : 0 ≤ x) : 0 ≤ x % part ∧ x % part < part ∧ x % part ≤ x := by
  refine ⟨Int.emod_nonneg _ (by omega), Int.emod_lt_of_pos _ (by omega), ?_⟩
  have h1 := Int.mul_ediv_add_emod x part
  have h2 := Int.mul_nonneg (show 0 ≤ part by omega) (Int.ediv_nonneg hx (show 0 ≤ part by omega))
  omega

end Go.Proofs.Ytdfdoinhkjoalaa.Plain
