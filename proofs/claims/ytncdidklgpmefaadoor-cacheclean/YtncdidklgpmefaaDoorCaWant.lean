/-
  A map of the call's own from pairs of numbers to texts (MpW): which text each pair has. No condition.
-/
import Derived.Test.YtncdidklgpmefaaDoorCaLaw
import Derived.Maps.OwnSet
import Derived.WideKeyPair
import Derived.Maps.StringElems
namespace Go.Proofs.YtncdidklgpmefaaDoor
open Go.RowKit Plain Go.Maps Go.WideMaps
set_option linter.unusedVariables false

theorem zeroSt (w : World) : (zeroValue 9).run Tryd.prog w = .ok (.string ByteArray.empty) w := by kernel_rfl
def pV (a b : Int) : Value := .agg #[.int .i64 a, .int .i64 b]
def kP (a b : Int) : Lit := .string (keyBytes [.int .i64 a, .int .i64 b])
theorem pair_arr : ArrKey Tryd.prog 47 3 2 := ⟨by kernel_rfl, by kernel_rfl, by kernel_rfl, by kernel_rfl⟩
theorem pair_key : Keyed Tryd.prog 47 := Keyed.of_law pair_arr.law
theorem types_size : ∃ m, Tryd.prog.types.size = m + 1 := ⟨Tryd.prog.types.size - 1, by
  have h : Tryd.prog.types.size ≠ 0 := by
    have : (Tryd.prog.types.size == 0) = false := by kernel_rfl
    exact beq_eq_false_iff_ne.1 this
  omega⟩
theorem pair_lit {a b : Int} (ha : iOk a) (hb : iOk b) : keyOf Tryd.prog 47 (.agg #[.int .i64 a, .int .i64 b]) = some (kP a b) := keyOf_pair pair_arr Tryd.underlying3 types_size (WalkArith.wf_i64 ha) (WalkArith.wf_i64 hb)
theorem kP_inj {a b a' b' : Int} (ha : iOk a) (hb : iOk b) (ha' : iOk a') (hb' : iOk b') (h : kP a b = kP a' b') : a = a' ∧ b = b' := by
  have h1 := pair_lit ha hb
  have h2 := pair_lit ha' hb'
  rw [← h] at h2
  have := pair_key.inj h1 h2
  simpa using this
set_option maxRecDepth 100000 in
theorem int_inv {m : Nat} {c : Value} {x : List Lit} (h : Tryd.prog.keyLits (m + 1) 3 [c] = some x) : ∃ p : Int, c = .int .i64 p ∧ iOk p := by
  unfold Program.keyLits at h
  rw [Tryd.underlying3] at h
  cases c with
  | int k p =>
    simp only at h
    split at h
    · rename_i e
      obtain ⟨rfl, e2⟩ := e
      exact ⟨p, rfl, wf_le e2⟩
    · cases h
  | _ => simp at h
set_option maxRecDepth 100000 in
theorem pair_inv {key : Value} {kl : Lit} (h : keyOf Tryd.prog 47 key = some kl) : ∃ a b : Int, key = .agg #[.int .i64 a, .int .i64 b] ∧ iOk a ∧ iOk b := by
  unfold keyOf at h
  rw [pair_arr.hu] at h
  simp only at h
  split at h
  · rename_i hf
    rw [Bool.and_eq_true] at hf
    cases key with
    | agg cs =>
      have h2 : cs.size = 2 := by
        have := hf.2
        unfold Value.formed at this
        rw [pair_arr.hu, pair_arr.size] at this
        simpa using this
      obtain ⟨l⟩ := cs
      match l, h2 with
      | [c0, c1], _ =>
        obtain ⟨m, hm⟩ := types_size
        rw [hm] at h
        obtain ⟨ls, hls, _⟩ := Option.map_eq_some_iff.1 h
        have h3 : Tryd.prog.keyLits (m + 2) 47 [c0, c1] = some ls := hls
        clear h hls
        unfold Program.keyLits at h3
        rw [pair_arr.hu] at h3
        simp only at h3
        rw [if_pos (by rw [pair_arr.size]; rfl), show List.range 2 = [0, 1] from rfl, List.mapM_cons, List.mapM_cons, List.mapM_nil, pair_arr.one] at h3
        simp [Option.bind_eq_some_iff] at h3
        obtain ⟨x, h4, _, ⟨y, h5, _⟩, _⟩ := h3
        obtain ⟨p, rfl, hp⟩ := int_inv h4
        obtain ⟨q, rfl, hq⟩ := int_inv h5
        exact ⟨p, q, rfl, hp, hq⟩
    | _ => exact absurd hf.2 (by simp [Value.formed, pair_arr.hu])
  · cases h
/-- block b is such a map, f tells its texts. -/
structure MpW (w : World) (b n : Nat) (f : Int → Int → Option ByteArray) (D : DataW Unit) : Prop where
  own : w.ownsMap Tryd.prog 47 (plainElem Tryd.prog 9) b n D
  at_ : ∀ i j, iOk i → iOk j → Maps.has D (kP i j) = (f i j).isSome ∧ ∀ s, f i j = some s → s.size ≤ 64 ∧ ∀ z, D.atKey (kP i j) z = .lit (.string s.data.toList)
section
variable {w w' : World} {b n : Nat} {f : Int → Int → Option ByteArray} {D : DataW Unit}
theorem MpW.lt (h : MpW w b n f D) : b < w.heap.size := h.own.lt
theorem MpW.blk (h : MpW w b n f D) (k : w'.heap[b]? = w.heap[b]?) : MpW w' b n f D := by
  obtain ⟨es, clock, hbk, F⟩ := h.own
  exact ⟨⟨es, clock, k.trans hbk, F⟩, h.at_⟩
theorem MpW.made (w : World) : MpW (w.alloc (.map #[] 0)) w.heap.size 0 (fun _ _ => none) (.map []) :=
  ⟨World.ownsMap_made w _ _ _, fun _ _ _ _ => ⟨rfl, fun _ h => by cases h⟩⟩
theorem data_inj {a b : ByteArray} (h : a.data.toList = b.data.toList) : a = b := by
  obtain ⟨⟨x⟩⟩ := a
  obtain ⟨⟨y⟩⟩ := b
  simpa using h
theorem MpW.look (h : MpW w b n f D) {i j : Int} (hi : iOk i) (hj : iOk j) :
    (Instr.lookup 46 (.map (some b)) (.agg #[.int .i64 i, .int .i64 j]) false).run Tryd.prog w = .ok (.string ((f i j).getD noS)) w := by
  obtain ⟨v, ps, hrun, hv⟩ := h.own.lookup pair_key Tryd.underlying46 (zeroSt w) (plainElem_string Tryd.underlying9 (by decide)) (pair_lit hi hj)
  rw [hrun]
  cases hf : f i j with
  | none =>
    rw [Maps.atKey_of_not_has (by rw [(h.at_ i j hi hj).1, hf]; rfl)] at hv
    obtain ⟨x, rfl, hx, _⟩ := plainElem_string_inv Tryd.underlying9 hv
    simp only [Prod.mk.injEq, DataW.lit.injEq, Lit.string.injEq] at hx
    rw [← data_inj hx.1]; rfl
  | some s =>
    rw [((h.at_ i j hi hj).2 s hf).2] at hv
    obtain ⟨x, rfl, hx, _⟩ := plainElem_string_inv Tryd.underlying9 hv
    simp only [Prod.mk.injEq, DataW.lit.injEq, Lit.string.injEq] at hx
    rw [← data_inj hx.1]; rfl
def upP (f : Int → Int → Option ByteArray) (i j : Int) (s : Option ByteArray) (a b : Int) : Option ByteArray := if a = i ∧ b = j then s else f a b
theorem MpW.put (h : MpW w b n f D) {i j : Int} (hi : iOk i) (hj : iOk j) (hn : n < 1000) (s : ByteArray) (hs : s.size ≤ 64) :
    ∃ w' D', (Instr.mapUpdate 46 (.map (some b)) (.agg #[.int .i64 i, .int .i64 j]) (.string s)).run Tryd.prog w = .ok () w' ∧ MpW w' b (n + 1) (upP f i j (some s)) D' ∧ Sp [b] w w' := by
  obtain ⟨w', hrun, ho, hg⟩ := h.own.update pair_key Tryd.underlying46 (by unfold maxLen; omega) (pair_lit hi hj) (plainElem_string Tryd.underlying9 (s := s) (by unfold maxLen; omega))
  refine ⟨w', _, hrun, ⟨ho, fun a c ha hc => ?_⟩, grown_sp hg⟩
  unfold Go.Proofs.YtncdidklgpmefaaDoor.upP
  by_cases e : a = i ∧ c = j
  · obtain ⟨rfl, rfl⟩ := e
    rw [if_pos ⟨rfl, rfl⟩]
    refine ⟨Maps.has_put_same (h.own.isMap) (by trivial) _, fun u hu => ?_⟩
    obtain rfl : s = u := Option.some.inj hu
    exact ⟨hs, fun z => Maps.atKey_put_same (h.own.isMap) (by trivial) _ _⟩
  · rw [if_neg e]
    have hne : kP a c ≠ kP i j := fun h => e (kP_inj ha hc hi hj h)
    rw [Maps.has_put_other hne]
    refine ⟨(h.at_ a c ha hc).1, fun u hu => ⟨((h.at_ a c ha hc).2 u hu).1, fun z => ?_⟩⟩
    rw [Maps.atKey_put_other hne]
    exact ((h.at_ a c ha hc).2 u hu).2 z
theorem MpW.del (h : MpW w b n f D) {i j : Int} (hi : iOk i) (hj : iOk j) :
    ∃ w', (∀ ty, (Builtin.delete_ #[46, 47] ty #[.map (some b), .agg #[.int .i64 i, .int .i64 j]]).run Tryd.prog w = .ok (.tuple #[]) w') ∧ MpW w' b n (upP f i j none) (D.del (kP i j)) ∧ Sp [b] w w' := by
  obtain ⟨w', hrun, ho, hg⟩ := h.own.drop pair_key Tryd.underlying46 (pair_lit hi hj) 0
  refine ⟨w', fun ty => hrun, ⟨ho, fun a c ha hc => ?_⟩, grown_sp hg.grown⟩
  unfold Go.Proofs.YtncdidklgpmefaaDoor.upP
  by_cases e : a = i ∧ c = j
  · obtain ⟨rfl, rfl⟩ := e
    rw [if_pos ⟨rfl, rfl⟩]
    exact ⟨Maps.has_del_same, fun u h => by cases h⟩
  · rw [if_neg e]
    have hne : kP a c ≠ kP i j := fun h => e (kP_inj ha hc hi hj h)
    rw [Maps.has_del_other hne]
    refine ⟨(h.at_ a c ha hc).1, fun u hu => ⟨((h.at_ a c ha hc).2 u hu).1, fun z => ?_⟩⟩
    rw [Maps.atKey_del_other hne]
    exact ((h.at_ a c ha hc).2 u hu).2 z
end
/-- a range under way stays where its two blocks do. -/
theorem ranges_blk {w w' : World} {b r n : Nat} {D : DataW Unit} {left : Lit → Bool} {cnt : Nat} {k : TypeId} {R : Value → Option (DataW Unit × List MemPlace)} (h : w.ranges Tryd.prog k R b r n D left cnt) (hb : w'.heap[b]? = w.heap[b]?) (hr : w'.heap[r]? = w.heap[r]?) : w'.ranges Tryd.prog k R b r n D left cnt := by
  obtain ⟨es, clock, since, seen, c0, h1, F, hs, hD, h2, rest⟩ := h
  exact ⟨es, clock, since, seen, c0, hb.trans h1, F, hs, hD, hr.trans h2, rest⟩
/-- a step of a range over such a map. -/
theorem wpList_next_pair {w : World} {ops : Array Oper} {rest : List Oper} {o : Oper} {a : Act} {Q : Exit → Act → World → Prop} (hg : o.guard = none) (it : Operand) (hop : o.op = Op.next it false)
    (b r n : Nat) (D : DataW Unit) (left : Lit → Bool) (cnt : Nat) (hit : a.eval it = .pointer (some ⟨r, 0, none⟩)) (h : w.ranges Tryd.prog 47 (plainElem Tryd.prog 9) b r n D left cnt)
    (hDone : cnt = 0 → (∀ kl, left kl = false) → wpList Tryd.prog ops Q rest (a.put o.dst (.tuple #[.bool false])) w)
    (hMore : ∀ (i j : Int) (c : ByteArray) (w' : World) (cnt' : Nat), iOk i → iOk j → left (kP i j) = true → (∀ zd, D.atKey (kP i j) zd = .lit (.string c.data.toList)) → w'.ranges Tryd.prog 47 (plainElem Tryd.prog 9) b r n D (fun z => left z && !z.sameKey (kP i j)) cnt' → cnt' < cnt →
      Sp [r] w w' → (Instr.entry (.pointer (some ⟨r, 0, none⟩))).run Tryd.prog w' = .ok (.tuple #[.agg #[.int .i64 i, .int .i64 j], .string c]) w' → wpList Tryd.prog ops Q rest (a.put o.dst (.tuple #[.bool true, .agg #[.int .i64 i, .int .i64 j], .string c])) w') :
    wpList Tryd.prog ops Q (o :: rest) a w :=
  wpList_next_ranges w hg it hop 47 pair_key (plainElem Tryd.prog 9) (fun p : Int × Int => Value.agg #[.int .i64 p.1, .int .i64 p.2]) Value.string (fun key kl hkey => by obtain ⟨x, y, rfl, _⟩ := pair_inv hkey; exact ⟨(x, y), rfl⟩) (fun v y hv => by obtain ⟨c, rfl, _⟩ := plainElem_string_inv Tryd.underlying9 hv; exact ⟨c, rfl⟩)
    b r n D left cnt hit h hDone (fun x c kl y w' cnt' hkey hlk hv hat hrg hlt hgr hsz hen => by
      obtain ⟨i, j, e, hi, hj⟩ := pair_inv hkey
      have e1 : x.1 = i ∧ x.2 = j := by simpa using e
      obtain ⟨e1, e2⟩ := e1
      rw [← e1] at hi
      rw [← e2] at hj
      have hk : kl = kP x.1 x.2 := by
        have := pair_lit hi hj
        rw [this] at hkey
        exact (Option.some.inj hkey).symm
      subst hk
      obtain ⟨c', ec, rfl, hwc⟩ := plainElem_string_inv Tryd.underlying9 hv
      cases ec
      exact hMore x.1 x.2 c w' cnt' hi hj hlk hat hrg hlt (grown_sp hgr) hen)

end Go.Proofs.YtncdidklgpmefaaDoor
