/-
  What a batch needs for columns of a stripe, in plain terms; rows of writes and of columns in memory; a map of texts of the call's own. No condition.
-/
import Derived.Test.YtonooelffokfkaaGreatDoorZRwMap
import Derived.Lib.SlKeysI
import Derived.Maps.OwnSet
import Derived.WideKeyPair
import Derived.Maps.StringElems
namespace Go.Proofs.YtonooelffokfkaaGreatDoor
open Go.RowKit Plain Go.Maps Go.WideMaps
set_option linter.unusedVariables false

abbrev CB := Int × ByteArray
def noC : CB := (0, noS)
def wcE (N : Int) : List CB → Int
  | [] => 0
  | p :: r => if 0 ≤ p.1 ∧ p.1 < N then (if p.2.size = 64 then wcE N r else 2) else 3
def wcL (L : LB) (t : Int) : List CB → List CB
  | [] => []
  | p :: r => if wh L (mM L.n t p.1) t = true then (mM L.n t p.1, p.2) :: wcL L t r else wcL L t r
def wtE (L : LB) (t : Int) (l : List CB) : Int := if lsE L t = 0 then wcE L.n l else lsE L t
def wtL (L : LB) (t : Int) (l : List CB) : List CB := if wtE L t l = 0 then wcL L t l else []
theorem wcE_app {N : Int} : ∀ {a : List CB} (b : List CB), wcE N a = 0 → wcE N (a ++ b) = wcE N b
  | [], b, _ => rfl
  | p :: r, b, h => by
    simp only [wcE] at h
    simp only [List.cons_append, wcE]
    split at h
    · rename_i h1
      rw [if_pos h1]
      split at h
      · rename_i h2
        rw [if_pos h2]
        exact wcE_app b h
      · omega
    · omega
theorem wcL_app (L : LB) (t : Int) : ∀ (a b : List CB), wcL L t (a ++ b) = wcL L t a ++ wcL L t b
  | [], b => rfl
  | p :: r, b => by
    simp only [List.cons_append, wcL, wcL_app L t r b]
    split <;> simp
theorem wcL_len (L : LB) (t : Int) : ∀ l, (wcL L t l).length ≤ l.length
  | [] => Nat.le_refl _
  | p :: r => by
    have := wcL_len L t r
    simp only [wcL]
    split <;> simp <;> omega
theorem take_succC {l : List CB} {k : Nat} (h : k < l.length) : l.take (k + 1) = l.take k ++ [l.getD k noC] := by
  rw [List.take_add_one, List.getElem?_eq_getElem h, List.getD_eq_getElem?_getD, List.getElem?_eq_getElem h]; rfl
/-- one more column: it errs, or it goes on. -/
theorem wc_err {N : Int} {l : List CB} {k : Nat} (h : k < l.length) (h0 : wcE N (l.take k) = 0) (hE : wcE N [l.getD k noC] ≠ 0) : wcE N l = wcE N [l.getD k noC] := by
  have e : l = l.take k ++ (l.getD k noC :: l.drop (k + 1)) := by
    rw [List.getD_eq_getElem?_getD, List.getElem?_eq_getElem h]
    show l = l.take k ++ (l[k] :: l.drop (k + 1))
    rw [← List.drop_eq_getElem_cons h, List.take_append_drop]
  have e2 := wcE_app (N := N) (l.getD k noC :: l.drop (k + 1)) h0
  rw [← e] at e2
  rw [e2]
  simp only [wcE] at hE ⊢
  split
  · split
    · rename_i h1 h2; rw [if_pos h1, if_pos h2] at hE; exact absurd rfl hE
    · rfl
  · rfl
theorem wc_go {N : Int} {l : List CB} {k : Nat} (h : k < l.length) (h0 : wcE N (l.take k) = 0) (hE : wcE N [l.getD k noC] = 0) : wcE N (l.take (k + 1)) = 0 := by
  rw [take_succC h, wcE_app _ h0]; exact hE
theorem wc_one1 {N c : Int} {s : ByteArray} : wcE N [(c, s)] = if 0 ≤ c ∧ c < N then (if s.size = 64 then 0 else 2) else 3 := rfl

/-- writes as cells. -/
def wvs (t : Int) : List CB → List Value
  | [] => []
  | p :: r => .int .i64 p.1 :: .int .i64 t :: .string p.2 :: wvs t r
theorem wvs_len (t : Int) : ∀ l, (wvs t l).length = l.length * 3
  | [] => rfl
  | p :: r => by simp only [wvs, List.length_cons, wvs_len t r]; omega
theorem wvs_app (t : Int) : ∀ l m, wvs t (l ++ m) = wvs t l ++ wvs t m
  | [], m => rfl
  | p :: r, m => by simp only [List.cons_append, wvs, wvs_app t r m]
theorem wvs_at (t : Int) : ∀ (l : List CB) (i : Nat), i < l.length → (wvs t l)[i * 3]? = some (.int .i64 (l.getD i noC).1) ∧ (wvs t l)[i * 3 + 1]? = some (.int .i64 t) ∧ (wvs t l)[i * 3 + 2]? = some (.string (l.getD i noC).2)
  | [], i, h => by cases h
  | p :: r, 0, _ => ⟨rfl, rfl, rfl⟩
  | p :: r, i + 1, h => by
    have := wvs_at t r i (by simpa using h)
    simp only [wvs]
    rw [show (i + 1) * 3 = i * 3 + 1 + 1 + 1 by omega]
    simpa using this
structure Wi (w : World) (v : Value) (t : Int) (l : List CB) : Prop where
  out : ∃ a g cap, v = .slice a l.length cap ∧ l.length ≤ cap ∧ cap ≤ 9223372036854775807 ∧ (0 < l.length → a = some ⟨g, 0, none⟩) ∧ ∀ i, i < l.length → w.cell? ⟨g, i * 3, none⟩ = some (.int .i64 (l.getD i noC).1) ∧ w.cell? ⟨g, i * 3 + 1, none⟩ = some (.int .i64 t) ∧ w.cell? ⟨g, i * 3 + 2, none⟩ = some (.string (l.getD i noC).2)
theorem Wi.kept {w w' : World} {v : Value} {t : Int} {l : List CB} (h : Wi w v t l) (k : Kp w w') : Wi w' v t l := by
  obtain ⟨a, g, cap, h1, h2, h3, h4, h5⟩ := h.out
  exact ⟨a, g, cap, h1, h2, h3, h4, fun i hi => ⟨k.held (h5 i hi).1, k.held (h5 i hi).2.1, k.held (h5 i hi).2.2⟩⟩
theorem Wi.nil (w : World) (t : Int) : Wi w (.slice none 0 0) t [] := ⟨none, 0, 0, rfl, Nat.le_refl _, by omega, fun h => absurd h (by simp), fun i h => absurd h (by simp)⟩
theorem own_cell {w : World} {g : Nat} {cur : Array Value} {e : TypeId} (h : w.heap[g]? = some (.cells cur e (0, 0))) {j : Nat} {u : Value} (hj : cur[j]? = some u) : w.cell? ⟨g, j, none⟩ = some u := by
  simp only [World.cell?, h]
  exact hj
theorem Wi.owned {w : World} {base : Nat} {e : TypeId} {v : Value} {t : Int} {l : List CB} (h : w.ownsRow base e 3 v l.length (wvs t l)) : Wi w v t l := by
  obtain ⟨hl, h⟩ := h
  rcases h with ⟨rfl, h0⟩ | ⟨g, cap, cur, rfl, hb, hh, h1, h2, h3, h4⟩
  · have : l = [] := List.eq_nil_of_length_eq_zero h0
    subst this
    exact Wi.nil w t
  · refine ⟨_, g, cap, rfl, h1, by unfold maxLen at h2; omega, fun _ => rfl, fun i hi => ?_⟩
    obtain ⟨a1, a2, a3⟩ := wvs_at t l i hi
    have key : ∀ (j : Nat) (u : Value), j < l.length * 3 → (wvs t l)[j]? = some u → w.cell? ⟨g, j, none⟩ = some u := fun j u hj hu => by
      refine own_cell hh ?_
      rw [← h4, List.getElem?_take_of_lt hj] at hu
      simpa using hu
    exact ⟨key _ _ (by omega) a1, key _ _ (by omega) a2, key _ _ (by omega) a3⟩
theorem info_rw : (Tryz.prog.info? 101).map (fun i => (i.zero, i.size, i.bytes)) = some (some (.agg #[.int .i64 0, .int .i64 0, .string ByteArray.empty]), 3, 32) := by kernel_rfl
theorem info_dw : (Tryz.prog.info? 100).map (fun i => (i.zero, i.size, i.bytes)) = some (some (.agg #[.int .i64 0, .int .i64 0, .string ByteArray.empty]), 3, 32) := by kernel_rfl

/-- columns as cells. -/
def cvc : List CB → List Value
  | [] => []
  | p :: r => .int .i64 p.1 :: .string p.2 :: cvc r
theorem cvc_len : ∀ l, (cvc l).length = l.length * 2
  | [] => rfl
  | p :: r => by simp only [cvc, List.length_cons, cvc_len r]; omega
theorem cvc_app : ∀ l m, cvc (l ++ m) = cvc l ++ cvc m
  | [], m => rfl
  | p :: r, m => by simp only [List.cons_append, cvc, cvc_app r m]
theorem cvc_at : ∀ (l : List CB) (i : Nat), i < l.length → (cvc l)[i * 2]? = some (.int .i64 (l.getD i noC).1) ∧ (cvc l)[i * 2 + 1]? = some (.string (l.getD i noC).2)
  | [], i, h => by cases h
  | p :: r, 0, _ => ⟨rfl, rfl⟩
  | p :: r, i + 1, h => by
    have := cvc_at r i (by simpa using h)
    simp only [cvc]
    rw [show (i + 1) * 2 = i * 2 + 1 + 1 by omega]
    simpa using this
structure Ci (w : World) (v : Value) (l : List CB) : Prop where
  out : ∃ a g cap, v = .slice a l.length cap ∧ l.length ≤ cap ∧ cap ≤ 9223372036854775807 ∧ (0 < l.length → a = some ⟨g, 0, none⟩) ∧ ∀ i, i < l.length → w.cell? ⟨g, i * 2, none⟩ = some (.int .i64 (l.getD i noC).1) ∧ w.cell? ⟨g, i * 2 + 1, none⟩ = some (.string (l.getD i noC).2)
theorem Ci.kept {w w' : World} {v : Value} {l : List CB} (h : Ci w v l) (k : Kp w w') : Ci w' v l := by
  obtain ⟨a, g, cap, h1, h2, h3, h4, h5⟩ := h.out
  exact ⟨a, g, cap, h1, h2, h3, h4, fun i hi => ⟨k.held (h5 i hi).1, k.held (h5 i hi).2⟩⟩
theorem Ci.nil (w : World) : Ci w (.slice none 0 0) [] := ⟨none, 0, 0, rfl, Nat.le_refl _, by omega, fun h => absurd h (by simp), fun i h => absurd h (by simp)⟩
theorem Ci.owned {w : World} {base : Nat} {e : TypeId} {v : Value} {l : List CB} (h : w.ownsRow base e 2 v l.length (cvc l)) : Ci w v l := by
  obtain ⟨hl, h⟩ := h
  rcases h with ⟨rfl, h0⟩ | ⟨g, cap, cur, rfl, hb, hh, h1, h2, h3, h4⟩
  · have : l = [] := List.eq_nil_of_length_eq_zero h0
    subst this
    exact Ci.nil w
  · refine ⟨_, g, cap, rfl, h1, by unfold maxLen at h2; omega, fun _ => rfl, fun i hi => ?_⟩
    obtain ⟨a1, a2⟩ := cvc_at l i hi
    have key : ∀ (j : Nat) (u : Value), j < l.length * 2 → (cvc l)[j]? = some u → w.cell? ⟨g, j, none⟩ = some u := fun j u hj hu => by
      refine own_cell hh ?_
      rw [← h4, List.getElem?_take_of_lt hj] at hu
      simpa using hu
    exact ⟨key _ _ (by omega) a1, key _ _ (by omega) a2⟩
theorem info_cc : (Tryz.prog.info? 92).map (fun i => (i.zero, i.size, i.bytes)) = some (some (.agg #[.int .i64 0, .string ByteArray.empty]), 2, 24) := by kernel_rfl

theorem zeroS (w : World) : (zeroValue 9).run Tryz.prog w = .ok (.string ByteArray.empty) w := by kernel_rfl
def iOk (i : Int) : Prop := -9223372036854775808 ≤ i ∧ i ≤ 9223372036854775807
/-- block b is a map of texts, c of them: f tells which. -/
structure MpS (w : World) (b n c : Nat) (f : Int → Option ByteArray) (D : DataW Unit) : Prop where
  own : w.ownsMap Tryz.prog 3 (plainElem Tryz.prog 9) b n D
  sz : Maps.size D = c
  at_ : ∀ i, iOk i → Maps.has D (.int .i64 i) = (f i).isSome ∧ ∀ s, f i = some s → s.size ≤ 64 ∧ ∀ z, D.atKey (.int .i64 i) z = .lit (.string s.data.toList)
theorem MpS.lt {w : World} {b n c : Nat} {f : Int → Option ByteArray} {D : DataW Unit} (h : MpS w b n c f D) : b < w.heap.size := h.own.lt
theorem MpS.kp {w w' : World} {b n c : Nat} {f : Int → Option ByteArray} {D : DataW Unit} (h : MpS w b n c f D) (k : Kp w w') : MpS w' b n c f D := by
  have hlt := h.own.lt
  obtain ⟨es, clock, hbk, F⟩ := h.own
  exact ⟨⟨es, clock, (k.block b hlt).trans hbk, F⟩, h.sz, h.at_⟩
theorem MpS.made (w : World) : MpS (w.alloc (.map #[] 0)) w.heap.size 0 0 (fun _ => none) (.map []) :=
  ⟨World.ownsMap_made w _ _ _, rfl, fun _ _ => ⟨rfl, fun _ h => by cases h⟩⟩
theorem data_inj {a b : ByteArray} (h : a.data.toList = b.data.toList) : a = b := by
  obtain ⟨⟨x⟩⟩ := a
  obtain ⟨⟨y⟩⟩ := b
  simpa using h
theorem MpS.look {w : World} {b n c : Nat} {f : Int → Option ByteArray} {D : DataW Unit} (h : MpS w b n c f D) {i : Int} (hi : iOk i) {s : ByteArray} (hs : f i = some s) :
    (Instr.lookup 86 (.map (some b)) (.int .i64 i) false).run Tryz.prog w = .ok (.string s) w := by
  obtain ⟨v, ps, hrun, hv⟩ := h.own.lookup int_key Tryz.underlying86 (zeroS w) (plainElem_string Tryz.underlying9 (by decide)) (int_lit hi.1 hi.2)
  rw [((h.at_ i hi).2 s hs).2] at hv
  obtain ⟨x, rfl, hx, _⟩ := plainElem_string_inv Tryz.underlying9 hv
  simp only [Prod.mk.injEq, DataW.lit.injEq, Lit.string.injEq] at hx
  rw [hrun, data_inj hx.1]
theorem MpS.ask {w : World} {b n c : Nat} {f : Int → Option ByteArray} {D : DataW Unit} (h : MpS w b n c f D) {i : Int} (hi : iOk i) :
    (Instr.lookup 86 (.map (some b)) (.int .i64 i) true).run Tryz.prog w = .ok (.tuple #[.string ((f i).getD ByteArray.empty), .bool (f i).isSome]) w := by
  obtain ⟨v, ps, hrun, hv⟩ := h.own.look_ok int_key Tryz.underlying86 (zeroS w) (plainElem_string Tryz.underlying9 (by decide)) (int_lit hi.1 hi.2)
  rw [(h.at_ i hi).1] at hrun
  cases hf : f i with
  | none =>
    rw [Maps.atKey_of_not_has (by rw [(h.at_ i hi).1, hf]; rfl)] at hv
    obtain ⟨x, rfl, hx, _⟩ := plainElem_string_inv Tryz.underlying9 hv
    simp only [Prod.mk.injEq, DataW.lit.injEq, Lit.string.injEq] at hx
    rw [hf] at hrun
    rw [hrun, ← data_inj hx.1]; rfl
  | some s =>
    rw [((h.at_ i hi).2 s hf).2] at hv
    obtain ⟨x, rfl, hx, _⟩ := plainElem_string_inv Tryz.underlying9 hv
    simp only [Prod.mk.injEq, DataW.lit.injEq, Lit.string.injEq] at hx
    rw [hf] at hrun
    rw [hrun, ← data_inj hx.1]; rfl
theorem MpS.len {w : World} {b n c : Nat} {f : Int → Option ByteArray} {D : DataW Unit} (h : MpS w b n c f D) (ty : TypeId) : (Builtin.len_ #[86] ty #[.map (some b)]).run Tryz.prog w = .ok (.int .i64 (c : Int)) w := by
  rw [h.own.len Tryz.underlying86 ty, h.sz]
theorem MpS.put {w : World} {b n c : Nat} {f : Int → Option ByteArray} {D : DataW Unit} (h : MpS w b n c f D) {i : Int} (hi : iOk i) (hn : n < 1000) (s : ByteArray) (hs : s.size ≤ 64) :
    ∃ w' D', (Instr.mapUpdate 86 (.map (some b)) (.int .i64 i) (.string s)).run Tryz.prog w = .ok () w' ∧ MpS w' b (n + 1) (if (f i).isSome = true then c else c + 1) (fun j => if j = i then some s else f j) D' ∧ w.grownBy w' (some b) := by
  have hkey := int_lit hi.1 hi.2
  obtain ⟨w', hrun, ho, hg⟩ := h.own.update int_key Tryz.underlying86 (by unfold maxLen; omega) hkey (plainElem_string Tryz.underlying9 (s := s) (by unfold maxLen; omega))
  have hT := h.own.tidy int_key
  refine ⟨w', _, hrun, ⟨ho, ?_, fun j hj => ?_⟩, hg⟩
  · rw [Maps.size_put hT, (h.at_ i hi).1, h.sz]
  · by_cases e : j = i
    · subst e
      show _ = (if j = j then some s else f j).isSome ∧ ∀ u, (if j = j then some s else f j) = some u → _
      rw [if_pos rfl]
      refine ⟨Maps.has_put_same (h.own.isMap) (by trivial) _, fun u hu => ?_⟩
      obtain rfl : s = u := Option.some.inj hu
      exact ⟨hs, fun z => Maps.atKey_put_same (h.own.isMap) (by trivial) _ _⟩
    · show _ = (if j = i then some s else f j).isSome ∧ ∀ u, (if j = i then some s else f j) = some u → _
      rw [if_neg e]
      have hne : (Lit.int .i64 j) ≠ (Lit.int .i64 i) := fun h => by
        injection h with _ h
        exact e h
      rw [Maps.has_put_other hne]
      refine ⟨(h.at_ j hj).1, fun u hu => ⟨((h.at_ j hj).2 u hu).1, fun z => ?_⟩⟩
      rw [Maps.atKey_put_other hne]
      exact ((h.at_ j hj).2 u hu).2 z
/-- the keys, as they stand: each once, those that f has. -/
theorem MpS.keys {w : World} {b n c : Nat} {f : Int → Option ByteArray} {D : DataW Unit} (h : MpS w b n c f D) : (intKeys D).Nodup ∧ (intKeys D).length = c ∧ (∀ x, x ∈ intKeys D ↔ (iOk x ∧ (f x).isSome = true)) := by
  obtain ⟨es, hD, hpw, _⟩ := h.own.entries int_key
  obtain ⟨es', hD', hko⟩ := h.own.keysOf
  obtain rfl : es = es' := by rw [hD] at hD'; simpa using hD'
  have hk : ∀ p ∈ es, ∃ x, p.1 = .int .i64 x ∧ iOk x := fun p hp => by
    obtain ⟨v, hv⟩ := hko p hp
    obtain ⟨x, _, hx, hw⟩ := Maps.keyOf_i64 Tryz.underlying3 hv
    exact ⟨x, hx, bounds_i64 hw⟩
  have hsz := h.sz
  have hat := h.at_
  subst hD
  refine ⟨?_, ?_, fun x => ?_⟩
  · show (es.map fun p => Go.intOf p.1).Nodup
    refine List.pairwise_map.2 (hpw.imp_of_mem fun {p q} hp' hq' hne e => hne ?_)
    obtain ⟨a, ha, _⟩ := hk p hp'
    obtain ⟨b, hb, _⟩ := hk q hq'
    rw [ha, hb] at e ⊢
    exact congrArg _ e
  · rw [← hsz]
    show (es.map fun p => Go.intOf p.1).length = es.length
    simp
  · show x ∈ es.map (fun p => Go.intOf p.1) ↔ _
    rw [List.mem_map]
    constructor
    · rintro ⟨p, hp', rfl⟩
      obtain ⟨a, ha, hok⟩ := hk p hp'
      rw [ha]
      show iOk a ∧ (f a).isSome = true
      refine ⟨hok, ?_⟩
      rw [← (hat a hok).1, has_eq, List.any_eq_true]
      exact ⟨p, hp', by rw [ha]; simp [Lit.sameKey]⟩
    · rintro ⟨hok, hf⟩
      rw [← (hat x hok).1, has_eq, List.any_eq_true] at hf
      obtain ⟨p, hp', hs⟩ := hf
      obtain ⟨a, ha, _⟩ := hk p hp'
      rw [ha] at hs
      exact ⟨p, hp', by rw [ha]; simpa [Lit.sameKey, Go.intOf] using hs⟩

end Go.Proofs.YtonooelffokfkaaGreatDoor
