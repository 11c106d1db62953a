/-
  Contract of the document's Sorted. Conditions: that the object lies in memory as RX says, that its items are those of a list that rises.
-/
import Derived.Test.YtdfdoinhkjoalaaQuRef3
namespace Go.Proofs.Ytdfdoinhkjoalaa
open Go.RowKit Plain
set_option linter.unusedVariables false

/-- the block of the last one told. -/
def lsB (l : List It) : Nat → Int
  | 0 => -1
  | k + 1 => (l.getD k iz).b
/-- the place of the least block behind last, of the first i. -/
def Bs (m : List It) (last : Int) (i : Nat) (z : Int) : Prop := (z = -1 ∧ ∀ j, j < i → (m.getD j iz).b ≤ last) ∨ ∃ p : Nat, z = (p : Int) ∧ p < i ∧ last < (m.getD p iz).b ∧ ∀ j, j < i → last < (m.getD j iz).b → (m.getD p iz).b ≤ (m.getD j iz).b
theorem bs_skip {m : List It} {last : Int} {i : Nat} {z : Int} (h : Bs m last i z) (hs : (m.getD i iz).b ≤ last ∨ ∃ p : Nat, z = (p : Int) ∧ (m.getD p iz).b ≤ (m.getD i iz).b) : Bs m last (i + 1) z := by
  rcases h with ⟨rfl, h⟩ | ⟨p, rfl, hp, h1, h2⟩
  · refine .inl ⟨rfl, fun j hj => ?_⟩
    by_cases e : j = i
    · subst e
      rcases hs with hs | ⟨p, hp, _⟩
      · exact hs
      · omega
    · exact h j (by omega)
  · refine .inr ⟨p, rfl, by omega, h1, fun j hj hl => ?_⟩
    by_cases e : j = i
    · subst e
      rcases hs with hs | ⟨q, hq, h3⟩
      · omega
      · obtain rfl : p = q := by omega
        exact h3
    · exact h2 j (by omega) hl
theorem bs_take {m : List It} {last : Int} {i : Nat} {z : Int} (h : Bs m last i z) (hl : last < (m.getD i iz).b) (hs : z < 0 ∨ ∃ p : Nat, z = (p : Int) ∧ (m.getD i iz).b < (m.getD p iz).b) : Bs m last (i + 1) (i : Int) := by
  refine .inr ⟨i, rfl, by omega, hl, fun j hj hlj => ?_⟩
  by_cases e : j = i
  · subst e; omega
  · rcases h with ⟨rfl, h⟩ | ⟨p, rfl, hp, h1, h2⟩
    · have := h j (by omega); omega
    · have := h2 j (by omega) hlj
      rcases hs with hs | ⟨q, hq, h3⟩
      · omega
      · obtain rfl : p = q := by omega
        omega
/-- at the end it is the next of the list that rises. -/
theorem bs_end {l m : List It} (hs : Sr l) (hp : l.Perm m) (h0 : ∀ x ∈ l, 0 ≤ x.b) {k : Nat} (hk : k < l.length) {z : Int} (h : Bs m (lsB l k) m.length z) : ∃ p : Nat, z = (p : Int) ∧ p < m.length ∧ m.getD p iz = l.getD k iz := by
  have hlen := hp.length_eq
  have mem : ∀ j, j < m.length → m.getD j iz ∈ l := fun j hj => by
    rw [List.getD_eq_getElem?_getD, List.getElem?_eq_getElem hj]
    exact hp.mem_iff.2 (List.getElem_mem hj)
  have hlk : l.getD k iz = l[k] := by rw [List.getD_eq_getElem?_getD, List.getElem?_eq_getElem hk]; rfl
  have hlast : lsB l k < (l.getD k iz).b := by
    rw [hlk]
    cases k with
    | zero => have := h0 l[0] (List.getElem_mem hk); show -1 < _; omega
    | succ k =>
      show (l.getD k iz).b < _
      rw [List.getD_eq_getElem?_getD, List.getElem?_eq_getElem (by omega)]
      exact List.pairwise_iff_getElem.1 hs k (k + 1) (by omega) hk (by omega)
  obtain ⟨q, hq, hqe⟩ : ∃ q, q < m.length ∧ m.getD q iz = l.getD k iz := by
    have : l[k] ∈ m := hp.mem_iff.1 (List.getElem_mem hk)
    obtain ⟨q, hq, e⟩ := List.getElem_of_mem this
    exact ⟨q, hq, by rw [List.getD_eq_getElem?_getD, List.getElem?_eq_getElem hq, hlk]; exact e⟩
  rcases h with ⟨_, h⟩ | ⟨p, rfl, hpl, h1, h2⟩
  · have := h q hq; rw [hqe] at this; omega
  · refine ⟨p, rfl, hpl, ?_⟩
    have h3 := h2 q hq (by rw [hqe]; exact hlast)
    rw [hqe] at h3
    -- m[p] stands in l no earlier than k
    obtain ⟨j, hj, ej⟩ := List.getElem_of_mem (mem p hpl)
    have hjk : k ≤ j := by
      rcases Nat.lt_or_ge j k with hlt | hge
      · exfalso
        cases k with
        | zero => omega
        | succ k =>
          have h1' : (l.getD k iz).b < (m.getD p iz).b := h1
          rw [List.getD_eq_getElem?_getD, List.getElem?_eq_getElem (show k < l.length by omega)] at h1'
          simp only [Option.getD_some] at h1'
          rw [← ej] at h1'
          by_cases e : j = k
          · subst e; omega
          · have := List.pairwise_iff_getElem.1 hs j k hj (by omega) (by omega); omega
      · exact hge
    by_cases e : j = k
    · subst e; rw [hlk, ej]
    · have := List.pairwise_iff_getElem.1 hs k j hk hj (by omega)
      rw [hlk, ← ej] at h3
      omega

set_option maxRecDepth 100000 in
set_option maxHeartbeats 4000000 in
theorem rsorted_any {w0 w : World} {a : Nat} {T : List Nat} {S : QS} (h : RX w0 w a T S) (hl : S.L.length ≤ 1000) (l : List It) (hs : Sr l) (hp : l.Perm S.L) (h0 : ∀ x ∈ l, 0 ≤ x.b) : Calls Try.prog 31 #[.pointer (some ⟨a, 0, none⟩)] w fun e w' => ∃ u, e = .returned u ∧ Oi w' w.heap.size 34 u l ∧ Kp w w' := by
  obtain ⟨p, g, cap, hpp, hle, hcp, c0, c1, c2, f1, hcl⟩ := h.cells
  obtain ⟨m, hM⟩ : ∃ m, m = S.L := ⟨_, rfl⟩
  rw [← hM] at hpp hle c1 hcl hl hp
  obtain ⟨n, hn⟩ : ∃ n, n = m.length := ⟨_, rfl⟩
  rw [← hn] at hpp hle c1 hcl hl
  have HM : Hid (n = m.length ∧ Sr l ∧ l.Perm m ∧ (∀ x ∈ l, 0 ≤ x.b) ∧ l.length = n) := ⟨hn, hs, hp, h0, by rw [hp.length_eq, hn]⟩
  have HC : Hid (∀ i, i < n → w.cell? ⟨g, i * 3, none⟩ = some (.int .i64 (m.getD i iz).b) ∧ w.cell? ⟨g, i * 3 + 1, none⟩ = some (.string (m.getD i iz).d) ∧ w.cell? ⟨g, i * 3 + 2, none⟩ = some (.int .i64 (m.getD i iz).g)) := hcl
  have HP : Hid (0 < n → p = some ⟨g, 0, none⟩) := fun h => (hpp h).1
  clear h hM hn hpp hcl c0 c2 f1 hs hp h0
  go_enter Try.func31, Try.ntmps31
  go_wp2
  go_loopw [5, 3, 4] (fun q r la wr => ∃ k : Nat, q = .int .i64 k ∧ k ≤ n ∧ la = .int .i64 (lsB l k) ∧ Hid (Oi wr w.heap.size 34 r (l.take k)) ∧ Hid (Kp w wr)) (fun q _ _ _ => n - (intOf q).toNat)
  case atStart => exact ⟨0, rfl, by omega, rfl, (by simp; exact Oi.nil _ _ _ : Oi w w.heap.size 34 (.slice none 0 0) (l.take 0)), Kp.refl w⟩
  case round =>
    obtain ⟨k, rfl, hk, rfl, HO, HK⟩ := hrel
    rename World => wo
    have c1r := HK.out.held c1
    by_cases hkn : k < n
    · have hk3 : (k : Int) < (n : Int) := by omega
      obtain rfl := HP.out (by omega)
      obtain ⟨la, hla⟩ : ∃ la, la = lsB l k := ⟨_, rfl⟩
      rw [← hla]
      have HLA := hid hla
      clear hla
      go_wp2
      go_loopw [7, 6] (fun q z wx => ∃ (i : Nat) (zz : Int), q = .int .i64 i ∧ z = .int .i64 zz ∧ i ≤ n ∧ Hid (Bs m la i zz) ∧ wx = wo) (fun q _ _ => n - (intOf q).toNat)
      case atStart => exact ⟨0, -1, rfl, rfl, by omega, .inl ⟨rfl, fun j hj => absurd hj (by omega)⟩, rfl⟩
      case round =>
        obtain ⟨i, zz, rfl, rfl, hi, HB, hw⟩ := hrel
        rw [hw]
        clear hw
        by_cases hin : i < n
        · have hi3 : (i : Int) < (n : Int) := by omega
          have d0 := HK.out.held (HC.out i hin).1
          obtain ⟨y, hy⟩ : ∃ y, y = (m.getD i iz).b := ⟨_, rfl⟩
          rw [← hy] at d0
          have HY := hid hy
          clear hy
          by_cases hyl : la < y
          · have hg1 : decide (la < y) = true := by simp [hyl]
            by_cases hz : zz < 0
            · have hg2 : decide (zz < 0) = true := by simp [hz]
              have HB2 : Hid (Bs m la (i + 1) (i : Int)) := bs_take HB.out (by rw [← HY.out]; exact hyl) (.inl hz)
              clear HB
              go_wp2
              go_roundw
              case rel => exact ⟨i + 1, (i : Int), by go_num, rfl, by omega, HB2, trivial⟩
              case measure => simp [intOf]; omega
            · have hg2 : decide (zz < 0) = false := by simp; omega
              obtain ⟨p, rfl, hpi, h1, h2⟩ : ∃ p : Nat, zz = (p : Int) ∧ p < i ∧ la < (m.getD p iz).b ∧ ∀ j, j < i → la < (m.getD j iz).b → (m.getD p iz).b ≤ (m.getD j iz).b := by
                rcases HB.out with ⟨e, _⟩ | h
                · omega
                · exact h
              have d1 := HK.out.held (HC.out p (by omega)).1
              obtain ⟨v, hv⟩ : ∃ v, v = (m.getD p iz).b := ⟨_, rfl⟩
              rw [← hv] at d1
              have HV := hid hv
              have hp3 : (p : Int) < (n : Int) := by omega
              clear hv h1 h2
              by_cases hyv : y < v
              · have hg3 : decide (y < v) = true := by simp [hyv]
                have HB2 : Hid (Bs m la (i + 1) (i : Int)) := bs_take HB.out (by rw [← HY.out]; exact hyl) (.inr ⟨p, rfl, by rw [← HY.out, ← HV.out]; exact hyv⟩)
                clear HB
                go_wp2
                go_roundw
                case rel => exact ⟨i + 1, (i : Int), by go_num, rfl, by omega, HB2, trivial⟩
                case measure => simp [intOf]; omega
              · have hg3 : decide (y < v) = false := by simp; omega
                have HB2 : Hid (Bs m la (i + 1) (p : Int)) := bs_skip HB.out (.inr ⟨p, rfl, by rw [← HY.out, ← HV.out]; omega⟩)
                clear HB
                go_wp2
                go_roundw
                case rel => exact ⟨i + 1, (p : Int), by go_num, rfl, by omega, HB2, trivial⟩
                case measure => simp [intOf]; omega
          · have hg1 : decide (la < y) = false := by simp; omega
            have HB2 : Hid (Bs m la (i + 1) zz) := bs_skip HB.out (.inl (by rw [← HY.out]; omega))
            clear HB
            go_wp2
            go_roundw
            case rel => exact ⟨i + 1, zz, by go_num, rfl, by omega, HB2, trivial⟩
            case measure => simp [intOf]; omega
        · obtain rfl : i = n := by omega
          obtain ⟨m1, m2, m3, m4, m5⟩ := HM.out
          have hbs := HB.out
          rw [HLA.out, m1] at hbs
          obtain ⟨q, rfl, hq, hqe⟩ := bs_end m2 m3 m4 (by omega) hbs
          obtain ⟨d0, d1, d2⟩ := HC.out q (by omega)
          obtain ⟨x, hx⟩ : ∃ x, x = m.getD q iz := ⟨_, rfl⟩
          rw [← hx] at d0 d1 d2 hqe
          have HQ0 : Hid (∀ X, Kp w X → X.cell? ⟨a, 1, none⟩ = some (.slice (some ⟨g, 0, none⟩) i cap) ∧ X.cell? ⟨g, q * 3, none⟩ = some (.int .i64 x.b)) := fun X k => ⟨k.held c1, k.held d0⟩
          have d0 := HK.out.held d0
          have d1 := HK.out.held d1
          have d2 := HK.out.held d2
          have HT : Hid (l.take (k + 1) = l.take k ++ [x] ∧ lsB l (k + 1) = x.b) := ⟨by rw [hqe]; exact take_it (by omega), by rw [hqe]; rfl⟩
          have hlen : (l.take k).length ≤ k := by rw [List.length_take]; omega
          have hq3 : (q : Int) < (i : Int) := by omega
          obtain ⟨V, hV⟩ : ∃ V, V = wo.alloc (.cells #[.int .i64 x.b, .string x.d, .int .i64 x.g] 34) := ⟨_, rfl⟩
          have HIt : Hid (ItIn V (.slice (some ⟨wo.heap.size, 0, none⟩) 1 1) [x]) := by show ItIn _ _ _; rw [hV]; exact ItIn.lit1 wo x _ _ rfl
          have kV : Kp wo V := by rw [hV]; exact (Kp.refl wo).alloc _
          have HOV : Hid (Oi V w.heap.size 34 u3 (l.take k)) := HO.out.kept kV
          have HKV : Hid (Kp w V) := HK.out.trans kV
          rw [hV] at HIt HOV HKV
          clear hx hqe HO kV hV hbs m1 m2 m3 m4 m5 HB
          go_wp2_with (at_builtin; refine wpList_append_it rfl _ _ 44 rfl w.heap.size 34 elyR _ (l.take k) rfl HOV.out _ [x] rfl HIt.out ?c1 HKV.out.size ?_; rotate_left; intro u9 w4 ho2 hg2 hr2; have kw4 : Kp w w4 := HKV.out.grown hg2 (fun q hq => (HOV.out.lt q hq).1); obtain ⟨c1x, e0⟩ := HQ0.out w4 kw4)
          case c1 => simp; omega
          have HO4 : Hid (Oi w4 w.heap.size 34 u9 (l.take (k + 1))) := by show Oi _ _ _ _ _; rw [HT.out.1]; exact ho2
          have HK4 : Hid (Kp w w4) := kw4
          clear ho2 hg2 hr2 HOV HKV HIt d0 d1 d2 c1r HK kw4 HQ0 c1x e0
          try go_wp2
          go_roundw
          case rel => exact ⟨k + 1, by go_num, by omega, by rw [HT.out.2], HO4, HK4⟩
          case measure => simp [intOf]; omega
    · obtain rfl : k = n := by omega
      have HE : Hid (Oi wo w.heap.size 34 u3 l) := by
        have := HO.out
        rwa [List.take_of_length_le (by have := HM.out.2.2.2.2; omega)] at this
      clear HO
      go_wp2
      go_ret
      exact ⟨_, rfl, HE.out, HK.out⟩

end Go.Proofs.Ytdfdoinhkjoalaa
