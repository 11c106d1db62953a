/-
  The columns that RowWrites tells the document, out of the map; a list of columns as an argument. No condition.
-/
import Derived.Test.YtonooelffokfkaaGreatDoorZRwWd
import Derived.Test.YtonooelffokfkaaGreatDoorZSet
import Derived.OpenShut
import Derived.Deep.Slices
namespace Go.Proofs.YtonooelffokfkaaGreatDoor
open Go.ChangeShapes Go.WideShapes Go.ChangeAt Go.RowKit Plain Go.Maps Go.WideMaps
set_option linter.unusedVariables false

def clO (f : Int → Option ByteArray) (k : Nat) : List CB := match f ((k : Int) - 3) with | some s => [((k : Int) - 3, s)] | none => []
def clK (f : Int → Option ByteArray) : Nat → List CB
  | 0 => []
  | k + 1 => clK f k ++ clO f k
theorem clK_len (f : Int → Option ByteArray) : ∀ k, (clK f k).length ≤ k
  | 0 => Nat.le_refl _
  | k + 1 => by
    have := clK_len f k
    simp only [clK, clO, List.length_append]
    split <;> simp <;> omega
theorem clK_mem (f : Int → Option ByteArray) : ∀ k (p : CB), p ∈ clK f k ↔ (-3 ≤ p.1 ∧ p.1 < (k : Int) - 3 ∧ f p.1 = some p.2)
  | 0, p => by simp [clK]; omega
  | k + 1, p => by
    simp only [clK, List.mem_append, clK_mem f k p]
    constructor
    · rintro (⟨h1, h2, h3⟩ | h)
      · exact ⟨h1, by omega, h3⟩
      · unfold clO at h
        split at h
        · rename_i s hs
          obtain rfl : p = ((k : Int) - 3, s) := by simpa using h
          exact ⟨by show -3 ≤ (k : Int) - 3; omega, by show (k : Int) - 3 < _; omega, hs⟩
        · cases h
    · rintro ⟨h1, h2, h3⟩
      by_cases e : p.1 = (k : Int) - 3
      · right
        unfold clO
        rw [← e, h3]
        simp
      · exact .inl ⟨h1, by omega, h3⟩
theorem clK_rise (f : Int → Option ByteArray) : ∀ k, ((clK f k).map (·.1)).Pairwise (· < ·)
  | 0 => List.Pairwise.nil
  | k + 1 => by
    simp only [clK, List.map_append]
    refine List.pairwise_append.2 ⟨clK_rise f k, ?_, fun a ha b hb => ?_⟩
    · unfold clO
      split <;> simp
    · obtain ⟨p, hp, rfl⟩ := List.mem_map.1 ha
      obtain ⟨q, hq, rfl⟩ := List.mem_map.1 hb
      have h1 := (clK_mem f k p).1 hp
      unfold clO at hq
      split at hq
      · obtain rfl : q = _ := by simpa using hq
        show p.1 < (k : Int) - 3
        omega
      · cases hq
theorem rise_same {ks ls : List Int} (h : ks.Pairwise (· < ·)) (h' : ls.Pairwise (· < ·)) (hm : ∀ x, x ∈ ks ↔ x ∈ ls) : ks = ls := by
  have hk : ks.Nodup := h.imp fun {a b} h => by omega
  have hl : ls.Nodup := h'.imp fun {a b} h => by omega
  exact List.Perm.eq_of_pairwise (le := fun a b => a < b) (fun a b _ _ h1 h2 => by omega) h h' ((List.perm_ext_iff_of_nodup hk hl).2 hm)
def inP (x : Int) : Bool := decide (-3 ≤ x ∧ x < 40)
theorem cl_filter {f : Int → Option ByteArray} {c : Nat} {ks : List Int} (h : Sk f c ks) : (clK f 43).map (·.1) = ks.filter inP := by
  refine rise_same (clK_rise f 43) (h.1.filter _) fun x => ?_
  rw [List.mem_map, List.mem_filter, h.2.2 x]
  constructor
  · rintro ⟨p, hp, rfl⟩
    obtain ⟨h1, h2, h3⟩ := (clK_mem f 43 p).1 hp
    exact ⟨⟨⟨by omega, by omega⟩, by rw [h3]; rfl⟩, by unfold inP; exact decide_eq_true ⟨h1, by omega⟩⟩
  · rintro ⟨⟨_, h1⟩, h2⟩
    obtain ⟨s, hs⟩ := Option.isSome_iff_exists.1 h1
    unfold inP at h2
    have h2 := of_decide_eq_true h2
    exact ⟨(x, s), (clK_mem f 43 (x, s)).2 ⟨h2.1, by show x < _; omega, hs⟩, rfl⟩
theorem cl_all {f : Int → Option ByteArray} {c : Nat} {ks : List Int} (h : Sk f c ks) (hl : (clK f 43).length = c) : csL f ks = clK f 43 := by
  have e := cl_filter h
  have e2 : (ks.filter inP).length = ks.length := by rw [← e, List.length_map, hl, h.2.1]
  have e3 : ks.filter inP = ks := List.filter_eq_self.2 (List.length_filter_eq_length_iff.1 e2)
  rw [e3] at e
  unfold csL
  rw [← e, List.map_map]
  conv => rhs; rw [← List.map_id (clK f 43)]
  refine List.map_congr_left fun p hp => ?_
  obtain ⟨_, _, h3⟩ := (clK_mem f 43 p).1 hp
  show (p.1, (f p.1).getD noS) = p
  rw [h3]; rfl
theorem wcE_zero {N : Int} : ∀ {l : List CB}, wcE N l = 0 → ∀ p ∈ l, 0 ≤ p.1 ∧ p.1 < N
  | [], _, p, hp => by cases hp
  | q :: r, h, p, hp => by
    simp only [wcE] at h
    split at h
    · rename_i h1
      split at h
      · rcases List.mem_cons.1 hp with rfl | hp
        · exact h1
        · exact wcE_zero h p hp
      · omega
    · omega
theorem wcE_range {N : Int} : ∀ l : List CB, wcE N l = 0 ∨ wcE N l = 2 ∨ wcE N l = 3
  | [] => .inl rfl
  | q :: r => by
    simp only [wcE]
    split
    · split
      · exact wcE_range r
      · exact .inr (.inl rfl)
    · exact .inr (.inr rfl)
theorem cl_far {f : Int → Option ByteArray} {c : Nat} {ks : List Int} {N : Int} (hN : N ≤ 40) (h : Sk f c ks) (hl : (clK f 43).length ≠ c) : wcE N (csL f ks) = 2 ∨ wcE N (csL f ks) = 3 := by
  rcases wcE_range (N := N) (csL f ks) with h0 | h0
  · exfalso
    have e := cl_filter h
    have e2 : (ks.filter inP).length = ks.length := List.length_filter_eq_length_iff.2 fun x hx => by
      have := wcE_zero h0 (x, (f x).getD noS) (List.mem_map.2 ⟨x, hx, rfl⟩)
      have h1 : 0 ≤ x ∧ x < N := this
      unfold inP
      exact decide_eq_true ⟨by omega, by omega⟩
    rw [← e, List.length_map, h.2.1] at e2
    exact hl e2
  · exact h0

theorem scS_le (x : Nat) (o : Bool) : (scS x o).size ≤ 64 := by
  unfold scS
  rw [ByteArray.size_append, bs_size, bs_size]
  cases o <;> decide
theorem ls_nought {L : LB} (h : lg L = true) : lsE L 0 = 0 := by
  have hg := ((lg_iff L).1 h).1
  obtain ⟨_, _, h3, _⟩ := (gg_iff _ _).1 hg
  rw [(ls_yes 0 h).1, row_0 hg ⟨by omega, by omega⟩]
abbrev C3 := Int × Nat × Bool
def noC3 : C3 := (0, 0, false)
def CoIn (w : World) (v : Value) (l : List C3) : Prop := ∃ a g off cap, v = .slice a l.length cap ∧ l.length ≤ cap ∧ cap ≤ maxLen ∧ (0 < l.length → a = some ⟨g, off, none⟩) ∧ ∀ i, i < l.length → w.cell? ⟨g, off + i * 3, none⟩ = some (.int .i64 (l.getD i noC3).1) ∧ w.cell? ⟨g, off + i * 3 + 1, none⟩ = some (.int .u8 ((l.getD i noC3).2.1 : Nat)) ∧ w.cell? ⟨g, off + i * 3 + 2, none⟩ = some (.bool (l.getD i noC3).2.2) ∧ iOk (l.getD i noC3).1 ∧ (l.getD i noC3).2.1 < 256
section
variable {H : Type} {enc : TypeId × Value → H} {P : Program}
theorem open_cols {t e : TypeId} {f0 f1 f2 : Field} {W : World} {base : Nat} {v : Value} {d : DataW H} {ps : List MemPlace} (ht : P.underlying t = some (.slice e)) (he : P.underlying e = some (.struct #[f0, f1, f2])) (ce : P.cellsOf e = 3) (o0 : f0.offset = 0) (o1 : f1.offset = 1) (o2 : f2.offset = 2) (c0 : P.cellsOf f0.type = 1) (c1 : P.cellsOf f1.type = 1) (c2 : P.cellsOf f2.type = 1)
    (e0 : P.underlying f0.type = some (.int .i64)) (e1 : P.underlying f1.type = some (.int .u8)) (e2 : P.underlying f2.type = some .bool)
    (hv : Value.okWide P W .any base t v) (h : DataW.Trod enc P W 0 (fun _ => true) true t v d ps) : ∃ l : List C3, CoIn W v l := by
  obtain ⟨a0, len, cap, rfl⟩ := okWide_slice ht hv
  obtain ⟨fuel, hf⟩ := h
  rcases Go.Deep.open_slice ht hf with ⟨hcs, _⟩ | ⟨a, len', cap', m, n, D, Pl, hcs, _, hl, hm, hmm, _, hx⟩
  · simp [Value.cells] at hcs
    obtain ⟨rfl, rfl, rfl⟩ := hcs
    exact ⟨[], none, 0, 0, 0, rfl, Nat.le_refl _, by unfold maxLen; omega, fun h => absurd h (by simp), fun i h => absurd h (by simp)⟩
  · simp [Value.cells] at hcs
    obtain ⟨rfl, rfl, rfl⟩ := hcs
    simp only [if_true] at hmm
    rw [hmm] at hx
    by_cases h0 : len = 0
    · subst h0
      exact ⟨[], _, 0, 0, cap, rfl, by simp, hm, fun h => absurd h (by simp), fun i h => absurd h (by simp)⟩
    · have hz : ∀ i, i < cap → ∃ z : C3, W.cell? (a.add (i * 3)) = some (.int .i64 z.1) ∧ W.cell? (a.add (i * 3 + 1)) = some (.int .u8 (z.2.1 : Nat)) ∧ W.cell? (a.add (i * 3 + 2)) = some (.bool z.2.2) ∧ iOk z.1 ∧ z.2.1 < 256 := fun i hi => by
        obtain ⟨cs', h1, h2⟩ := hx i hi
        rw [ce] at h1
        obtain ⟨_, hlen, hcell⟩ := World.cells?_some h1
        obtain ⟨xs, k, _, _, _, hxl, hff⟩ := DataW.trod_struct he h2
        have g0 := hff 0 f0 rfl
        have g1 := hff 1 f1 rfl
        have g2 := hff 2 f2 rfl
        match cs', hlen with
        | [v0, v1, v2], _ =>
          match xs, hxl with
          | [y0, y1, y2], _ =>
            simp [o0, o1, o2, c0, c1, c2] at g0 g1 g2
            obtain ⟨p, ep, _, wp⟩ := DataW.trod_int e0 g0
            obtain ⟨q, eq, _, wq⟩ := DataW.trod_int e1 g1
            obtain ⟨b, eb, _⟩ := DataW.trod_bool e2 g2
            simp at ep eq eb
            subst ep; subst eq; subst eb
            have wq' : IntKind.u8.min ≤ q ∧ q ≤ IntKind.u8.max := by simpa [Lit.wf] using wq
            have m1 : IntKind.u8.min = 0 := by decide
            have m2 : IntKind.u8.max = 255 := by decide
            have bq : 0 ≤ q ∧ q < 256 := by omega
            obtain ⟨Q, rfl⟩ : ∃ Q : Nat, q = Q := ⟨q.toNat, by omega⟩
            have r0 := hcell 0 (by omega)
            have r1 := hcell 1 (by omega)
            have r2 := hcell 2 (by omega)
            rw [Go.Deep.add_add] at r0 r1 r2
            exact ⟨(p, Q, b), by simpa using r0, by simpa using r1, by simpa using r2, bounds_i64 wp, by show Q < 256; omega⟩
      obtain ⟨Z, hZ⟩ := Go.Deep.choose_lt hz
      obtain ⟨b, off, spot⟩ := a
      have hspot : spot = none := by simpa [Addr.add] using World.cell?_spot (hZ 0 (by omega)).1
      subst hspot
      have hlen : ((List.range len).map Z).length = len := by simp
      have hat : ∀ i, i < len → ((List.range len).map Z).getD i noC3 = Z i := fun i hi => by simp [List.getD_eq_getElem?_getD, hi]
      refine ⟨(List.range len).map Z, _, b, off, cap, by rw [hlen], by rw [hlen]; exact hl, hm, fun _ => rfl, fun i hi => ?_⟩
      rw [hlen] at hi
      rw [hat i hi]
      obtain ⟨c0, c1, c2, w0, w1⟩ := hZ i (by omega)
      rw [Addr.add_lit] at c0 c1 c2
      exact ⟨c0, by rw [Nat.add_assoc]; exact c1, by rw [Nat.add_assoc]; exact c2, w0, w1⟩
end

end Go.Proofs.YtonooelffokfkaaGreatDoor
