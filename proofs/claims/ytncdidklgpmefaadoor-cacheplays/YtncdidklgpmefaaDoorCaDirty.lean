/-
  Contracts of a cache's Dirty, Len, Have, Known. Conditions: that the object lies in memory, as caches come; that the library's table is there (Dirty, Len); that a stripe is an int.
-/
import Derived.Test.YtncdidklgpmefaaDoorCaLaw
import Derived.Test.YtncdidklgpmefaaDoorMkList
import Derived.Maps.RangeWalk
namespace Go.Proofs.YtncdidklgpmefaaDoor
open Go.RowKit Plain Go.Maps Go.WideMaps
set_option linter.unusedVariables false

/-- a range under way stays where its two blocks do. -/
theorem rng_blk {w w' : World} {b r n : Nat} {D : DataW Unit} {left : Lit → Bool} {cnt : Nat} {k : TypeId} {R : Value → Option (DataW Unit × List MemPlace)} (h : w.ranges Tryd.prog k R b r n D left cnt) (hb : w'.heap[b]? = w.heap[b]?) (hr : w'.heap[r]? = w.heap[r]?) : w'.ranges Tryd.prog k R b r n D left cnt := by
  obtain ⟨es, clock, since, seen, c0, h1, F, hs, hD, h2, rest⟩ := h
  exact ⟨es, clock, since, seen, c0, hb.trans h1, F, hs, hD, hr.trans h2, rest⟩
set_option maxRecDepth 100000 in
/-- a step of a range over a map of pointers. -/
theorem wpList_next_ptr {w : World} {ops : Array Oper} {rest : List Oper} {o : Oper} {a : Act} {Q : Exit → Act → World → Prop} (hg : o.guard = none) (it : Operand) (hop : o.op = Op.next it false)
    (b r n : Nat) (D : DataW Unit) (left : Lit → Bool) (cnt : Nat) (hit : a.eval it = .pointer (some ⟨r, 0, none⟩)) (h : w.ranges Tryd.prog 3 ptE' b r n D left cnt)
    (hD : ∀ k, iOk k → left (.int .i64 k) = true → ∃ g : Nat, ∀ z, D.atKey (.int .i64 k) z = .lit (.int .u64 (g : Nat)))
    (hDone : cnt = 0 → (∀ kl, left kl = false) → wpList Tryd.prog ops Q rest (a.put o.dst (.tuple #[.bool false])) w)
    (hMore : ∀ (k : Int) (g : Nat) (w' : World) (cnt' : Nat), iOk k → left (.int .i64 k) = true → (∀ zd, D.atKey (.int .i64 k) zd = .lit (.int .u64 (g : Nat))) → w'.ranges Tryd.prog 3 ptE' b r n D (fun z => left z && !z.sameKey (.int .i64 k)) cnt' → cnt' < cnt →
      Sp [r] w w' → (Instr.entry (.pointer (some ⟨r, 0, none⟩))).run Tryd.prog w' = .ok (.tuple #[.int .i64 k, .pointer (some ⟨g, 0, none⟩)]) w' → wpList Tryd.prog ops Q rest (a.put o.dst (.tuple #[.bool true, .int .i64 k, .pointer (some ⟨g, 0, none⟩)])) w') :
    wpList Tryd.prog ops Q (o :: rest) a w :=
  wpList_next_ranges w hg it hop 3 int_key ptE' (Value.int .i64) ptO (fun key kl hkey => by obtain ⟨x, rfl, _⟩ := Maps.keyOf_int_inv Tryd.underlying3 hkey; exact ⟨x, rfl⟩) (fun v y hv => by
      rcases ptE_inv hv with ⟨rfl, _⟩ | ⟨g, rfl, _⟩
      · exact ⟨none, rfl⟩
      · exact ⟨some g, rfl⟩)
    b r n D left cnt hit h hDone (fun x c kl y w' cnt' hkey hlk hv hat hrg hlt hgr hsz hen => by
      obtain ⟨x', ex, rfl, hwx⟩ := Maps.keyOf_int_inv Tryd.underlying3 hkey
      cases ex
      have hx : iOk x := wf_le hwx
      obtain ⟨g, hg⟩ := hD x hx hlk
      have e := hat .nil
      rw [hg] at e
      rcases ptE_inv hv with ⟨_, rfl⟩ | ⟨g', e2, rfl⟩
      · cases e
      · have : g = g' := by
          injection e with e
          injection e with _ e
          exact Int.ofNat.inj e
        subst this
        cases c with
        | none => cases e2
        | some u =>
          have : u = g := by simpa [ptO] using e2
          subst this
          exact hMore x u w' cnt' hx hlk hat hrg hlt (grown_sp hgr) hen)
theorem IntsIn.shape {w : World} {v : Value} {l : List Int} (h : IntsIn w v l) : ∃ a p, v = .slice a l.length p := by
  cases h with
  | empty a cap h => exact ⟨a, cap, rfl⟩
  | some b off cap l h0 h1 h2 hc => exact ⟨_, cap, rfl⟩
/-- the dirty stripes. -/
def dyS (C : CS) (j : Nat) : Bool := dyH (C.H (j : Int))
/-- the dirty ones of those that came already. -/
def dyL (C : CS) (left : Lit → Bool) (j : Nat) : Bool := !left (.int .i64 (j : Int)) && dyS C j
theorem wf_nat {j : Nat} (h : j < 256) : iOk (j : Int) := by unfold iOk; omega
theorem key_same {j k : Int} : (Lit.int .i64 j).sameKey (.int .i64 k) = decide (j = k) := by
  by_cases e : j = k
  · subst e
    rw [decide_eq_true rfl]
    exact WideAt.sameKey_self trivial
  · rw [decide_eq_false e]
    exact Maps.sameKey_ne (fun h => e (by injection h))
section
variable {w0 w w' : World} {c mb tb q : Nat} {A : Int → Nat} {C : CS} {X : List Nat}
theorem dyL_step {left : Lit → Bool} {k : Int} (hk : 0 ≤ k ∧ k < 64) (hl : left (.int .i64 k) = true) (j : Nat) (hj : j < 256) : dyL C (fun z => left z && !z.sameKey (.int .i64 k)) j = (dyL C left j || (oneF k j && dyH (C.H k))) := by
  unfold dyL dyS oneF
  show (!(left (.int .i64 (j : Int)) && !(Lit.int .i64 (j : Int)).sameKey (.int .i64 k)) && dyH (C.H (j : Int))) = _
  rw [key_same]
  by_cases e : (j : Int) = k
  · rw [e, hl]
    simp
  · rw [decide_eq_false e]
    simp
set_option maxRecDepth 100000 in
set_option maxHeartbeats 2000000 in
theorem cdirty (h : Ca w0 w c q C X) (hT : Tab w) : Calls Tryd.prog 13 #[.pointer (some ⟨c, 0, none⟩)] w fun e w' => ∃ v, e = .returned v ∧ IntsIn w' v ((fl 256 (dyS C)).map Int.ofNat) ∧ Kp w w' := by
  obtain ⟨mb, tb, A, h, hi, hn⟩ := h
  obtain ⟨c0, _, _⟩ := h.cells
  have hOf : Calls Tryd.prog 34 #[.slice none 0 0] w fun e w' => e = .returned (SV noF) ∧ Kp w w' := of_any _ [] w (IntsIn.empty none 0 (Nat.zero_le _))
  obtain ⟨n, D, hq, hm⟩ := h.m
  have hkey : ∀ k, inT C.S k = true → 0 ≤ k ∧ k < 64 := fun k e => hi.key k (in_iff.1 e)
  have hAc : ∀ k, inT C.S k = true → Cl w (A k) 72 (hc (C.H k)) := h.a
  have hD : ∀ k, iOk k → Maps.has D (.int .i64 k) = inT C.S k ∧ (inT C.S k = true → ∀ z, D.atKey (.int .i64 k) z = .lit (.int .u64 (A k : Nat))) := fun k hk => by
    obtain ⟨g1, g2⟩ := hm.at_ k hk
    rw [at_is] at g1
    exact ⟨g1, fun e => g2 (A k) (at_in e)⟩
  have hout : ∀ k, inT C.S k = false → dyH (C.H k) = false := fun k e => by rw [hi.outk e, dy_no]
  have hown := hm.own
  have hml := hm.lt
  have HH : Hid ((∀ k, inT C.S k = true → 0 ≤ k ∧ k < 64) ∧ (∀ k, inT C.S k = true → Cl w (A k) 72 (hc (C.H k))) ∧ (∀ k, iOk k → Maps.has D (.int .i64 k) = inT C.S k ∧ (inT C.S k = true → ∀ z, D.atKey (.int .i64 k) z = .lit (.int .u64 (A k : Nat)))) ∧ (∀ k, inT C.S k = false → dyH (C.H k) = false) ∧ Tab w ∧ mb < w.heap.size ∧ w.ownsMap Tryd.prog 3 ptE' mb n D) := ⟨hkey, hAc, hD, hout, hT, hml, hown⟩
  clear h hi hn hm hq hT hkey hAc hD hout hown hml
  obtain ⟨g0, hg0⟩ : ∃ g, g = noF := ⟨_, rfl⟩
  have HG0 : Hid (∀ j, g0 j = false) := fun j => by rw [hg0]; rfl
  rw [← hg0] at hOf
  clear hg0
  unfold SV at hOf
  go_enter Tryd.func13, Tryd.ntmps13
  go_wp2_with fail
  refine hOf.mono ?_; rintro e w1 ⟨rfl, k1⟩
  have c0 := k1.held c0
  obtain ⟨V, hV⟩ : ∃ V, V = w1.alloc (.cells (w4 (wd g0)) 67) := ⟨_, rfl⟩
  obtain ⟨B, hB⟩ : ∃ B, B = w1.heap.size := ⟨_, rfl⟩
  have aV : A4 V B (wd g0) := by rw [hV, hB]; exact A4.new w1 _ _
  have kV : Kp w V := by rw [hV]; exact k1.alloc _
  have c0 : V.cell? ⟨c, 0, none⟩ = some (.map (some mb)) := by rw [hV]; exact ((Kp.refl w1).alloc _).held c0
  have hBw : w.heap.size ≤ B := by rw [hB]; exact k1.size
  have HVV : Hid (V = w1.alloc (.cells (w4 (wd g0)) 67) ∧ B = w1.heap.size) := ⟨hV, hB⟩
  have HA := hid (And.intro aV (And.intro kV hBw))
  have hown : V.ownsMap Tryd.prog 3 ptE' mb n D := by
    obtain ⟨es, clock, hbk, F⟩ := HH.out.2.2.2.2.2.2
    exact ⟨es, clock, (kV.block mb HH.out.2.2.2.2.2.1).trans hbk, F⟩
  clear hOf k1 hV hB aV kV hBw
  go_upto_region 4 with fail
  rw [show w1.alloc (.cells #[.int .u64 ((wd g0 0 : Nat) : Int), .int .u64 ((wd g0 1 : Nat) : Int), .int .u64 ((wd g0 2 : Nat) : Int), .int .u64 ((wd g0 3 : Nat) : Int)] 67) = V from HVV.out.1.symm, ← HVV.out.2]
  clear HVV
  go_wp2_with (at_range; refine wpList_range_own _ rfl _ 53 rfl 3 62 int_key Tryd.underlying53 _ mb n D rfl hown ?_; intro wi hrg0 hg0 hs0)
  (try go_frame)
  obtain ⟨r, hr⟩ : ∃ r, r = V.heap.size := ⟨_, rfl⟩
  have H1 : Hid (wi.ranges Tryd.prog 3 ptE' mb r n D (Maps.has D) (Maps.size D) ∧ (∀ kl, Maps.has D kl = true → Maps.has D kl = true) ∧ A4 wi B (wd g0) ∧ (∀ j, j < 256 → g0 j = dyL C (Maps.has D) j) ∧ Kp w wi) := by
    have hKi : Kp V wi := ⟨hg0.os, hg0.tape, hg0.output, hg0.size, fun k hk => hg0.block k hk (by simp)⟩
    refine ⟨by rw [hr]; exact hrg0, fun _ h => h, HA.out.1.kept hKi, fun j hj => ?_, HA.out.2.1.trans hKi⟩
    rw [HG0.out j]
    unfold dyL dyS
    rw [(HH.out.2.2.1 j (wf_nat hj)).1]
    cases e : inT C.S (j : Int) with
    | true => rfl
    | false => rw [HH.out.2.2.2.1 j e]; rfl
  have HN : Hid (w.heap.size ≤ B ∧ r ≠ mb ∧ w.heap.size ≤ r ∧ B < r) := ⟨HA.out.2.2, by have := HH.out.2.2.2.2.2.1; have := HA.out.2.1.size; omega, by have := HA.out.2.1.size; omega, by have := HA.out.1.lt; omega⟩
  rw [← hr]
  clear hrg0 hg0 hs0 hown hr HA HG0
  go_loopw [4, 5] (fun _ _ wr => ∃ (left : Lit → Bool) (cnt : Nat) (g : Nat → Bool), Hid (wr.ranges Tryd.prog 3 ptE' mb r n D left cnt ∧ (∀ kl, left kl = true → Maps.has D kl = true) ∧ A4 wr B (wd g) ∧ (∀ j, j < 256 → g j = dyL C left j) ∧ Kp w wr)) (fun _ _ wr => wr.rangeLeft mb r)
  case atStart => exact ⟨_, _, _, H1⟩
  case round =>
    clear H1
    obtain ⟨left, cnt, g, HL⟩ := hrel
    rename World => wo
    have hDl : ∀ k, iOk k → left (.int .i64 k) = true → ∃ g : Nat, ∀ z, D.atKey (.int .i64 k) z = .lit (.int .u64 (g : Nat)) := fun k hk hl => by
      obtain ⟨g1, g2⟩ := HH.out.2.2.1 k hk
      rw [HL.out.2.1 _ hl] at g1
      exact ⟨A k, g2 g1.symm⟩
    go_wp2_with (at_next; refine wpList_next_ptr rfl _ rfl mb r n D left cnt rfl HL.out.1 hDl ?_ ?_)
    · intro h0 hl0
      obtain ⟨hrg, hL, aB, hg, kp⟩ := HL.out
      have hLi := list_any (dyS C) wo (HH.out.2.2.2.2.1.kp kp)
      have hSV : SV (dyS C) = SV g := SV_congr (fun j hj => by
        rw [hg j hj]
        unfold dyL
        rw [hl0, Bool.not_false, Bool.true_and])
      rw [hSV] at hLi
      unfold SV at hLi
      obtain ⟨b0, b1, b2, b3⟩ := aB.cells
      have HK := hid kp
      clear hrg hL aB hg kp h0 hl0 hDl HL hSV
      go_wp2_with fail
      refine hLi.mono ?_; rintro e w5 ⟨v, rfl, hv, k5⟩
      have HE := hid (And.intro hv (HK.out.trans k5))
      clear hLi hv k5 b0 b1 b2 b3
      go_wp2
      go_ret
      exact ⟨_, rfl, HE.out.1, HE.out.2⟩
    · intro k gA w1 cnt1 hk hlk hat hrg1 hlt1 hs1 hen
      obtain ⟨hrg, hL, aB, hg, kp⟩ := HL.out
      obtain ⟨q1, q2⟩ := HH.out.2.2.1 k hk
      have hin : inT C.S k = true := by rw [← q1]; exact hL _ hlk
      have hgA : gA = A k := by
        have e := q2 hin .nil
        rw [hat] at e
        have e2 : (gA : Int) = (A k : Nat) := by
          injection e with e
          injection e with _ e
        omega
      subst hgA
      have hkr := HH.out.1 k hin
      have k1 : Kp w w1 := Sp.kp kp hs1 (fun t ht => by simp at ht; subst ht; exact HN.out.2.2.1)
      have hE := empty_any (sdF (C.H k).d) w1
      obtain ⟨d0, d1, d2, d3⟩ := ((HH.out.2.1 k hin).kp k1).dirty
      have aB1 : A4 w1 B (wd g) := aB.of_block (hs1.block B aB.lt (by simp; have := HN.out.2.2.2; omega)) hs1.size
      have HP : Hid (∀ w2, Kp w w2 → w2.heap[mb]? = w1.heap[mb]? → w2.heap[r]? = w1.heap[r]? → ∀ g', (∀ j, j < 256 → g' j = (g j || (oneF k j && dyH (C.H k)))) → A4 w2 B (wd g') → w2.ranges Tryd.prog 3 ptE' mb r n D (fun z => left z && !z.sameKey (.int .i64 k)) cnt1 ∧ (∀ kl, (left kl && !kl.sameKey (.int .i64 k)) = true → Maps.has D kl = true) ∧ A4 w2 B (wd g') ∧ (∀ j, j < 256 → g' j = dyL C (fun z => left z && !z.sameKey (.int .i64 k)) j) ∧ Kp w w2) := fun w2 kp2 e1 e2 g' hg' a2 =>
        ⟨rng_blk hrg1 e1 e2, fun kl h => hL kl (by rw [Bool.and_eq_true] at h; exact h.1), a2, fun j hj => by rw [dyL_step hkr hlk j hj, hg' j hj, hg j hj], kp2⟩
      have HM : Hid (wo.rangeLeft mb r = cnt ∧ cnt1 < cnt) := ⟨hrg.left_eq, hlt1⟩
      have HA1 := hid (And.intro aB1 (And.intro k1 (And.intro hkr hrg1.lt)))
      have hdy : dyH (C.H k) = !emB (sdF (C.H k).d) := rfl
      unfold SV at hE
      clear hrg hL aB hg kp q1 q2 hat hlk hrg1 hlt1 hs1 hDl HL aB1 k1 hkr
      cases hem : emB (sdF (C.H k).d) with
      | true =>
        rw [hem] at hE hdy
        have HD : Hid (dyH (C.H k) = false) := hdy
        clear hdy hem
        go_wp2_with fail
        refine hE.mono ?_; rintro e w2 ⟨rfl, k2⟩
        have hlm : mb < w1.heap.size := Nat.lt_of_lt_of_le HH.out.2.2.2.2.2.1 HA1.out.2.1.size
        have HL2 := hid (HP.out w2 (HA1.out.2.1.trans k2) (k2.block mb hlm) (k2.block r HA1.out.2.2.2) g (fun j hj => by rw [HD.out]; simp) (HA1.out.1.kept k2))
        clear hE k2 HP d0 d1 d2 d3 hen
        go_wp2
        go_roundw
        case rel => exact ⟨_, _, _, HL2⟩
        case measure => rw [HL2.out.1.left_eq, HM.out.1]; exact HM.out.2
      | false =>
        rw [hem] at hE hdy
        have HD : Hid (dyH (C.H k) = true) := hdy
        clear hdy hem
        go_wp2_with fail
        refine hE.mono ?_; rintro e w2 ⟨rfl, k2⟩
        have a2 := HA1.out.1.kept k2
        obtain ⟨b0, b1, b2, b3⟩ := a2.cells
        have hW := with_any g k w2
        have HK2 := hid k2
        unfold SV at hW
        clear hE k2 a2 d0 d1 d2 d3
        go_wp2_with fail
        refine hW.mono ?_; rintro e w3 ⟨rfl, k3⟩
        obtain ⟨g', hg'⟩ : ∃ g', g' = orF g (oneF k) := ⟨_, rfl⟩
        have a3 := (HA1.out.1.kept HK2.out).kept k3
        obtain ⟨b0, b1, b2, b3⟩ := a3.cells
        have hz := a3.z
        have hlm : mb < w1.heap.size := Nat.lt_of_lt_of_le HH.out.2.2.2.2.2.1 HA1.out.2.1.size
        have k23 := HK2.out.trans k3
        have hm3 : mb < w3.heap.size := Nat.lt_of_lt_of_le hlm k23.size
        have hr3 : r < w3.heap.size := Nat.lt_of_lt_of_le HA1.out.2.2.2 k23.size
        have s4 : Sp [B] w3 (put4 w3 B (wd g')) := ((((Sp.refl [B] w3).set B 0 (by simp) _).set B 1 (by simp) _).set B 2 (by simp) _).set B 3 (by simp) _
        have hmB : mb ≠ B := by have := HH.out.2.2.2.2.2.1; have := HN.out.1; omega
        have hrB : r ≠ B := by have := HN.out.2.2.2; omega
        have HL2 := hid (HP.out (put4 w3 B (wd g')) ((HA1.out.2.1.trans k23).put4 HN.out.1 _) ((s4.block mb hm3 (by simpa using hmB)).trans (k23.block mb hlm)) ((s4.block r hr3 (by simpa using hrB)).trans (k23.block r HA1.out.2.2.2)) g' (fun j hj => by rw [hg', HD.out, Bool.and_true]; rfl) (a3.put _))
        unfold put4 at HL2
        have HG := hid hg'
        rw [← hg']
        clear hW hg' hlm k23 hm3 hr3 s4 hmB hrB HP k3 a3
        go_wp2
        go_roundw
        case rel => exact ⟨_, _, _, HL2⟩
        case measure => rw [HL2.out.1.left_eq, HM.out.1]; exact HM.out.2
set_option maxRecDepth 100000 in
set_option maxHeartbeats 1000000 in
theorem clen (h : Ca w0 w c q C X) (hT : Tab w) : Calls Tryd.prog 21 #[.pointer (some ⟨c, 0, none⟩)] w fun e w' => e = .returned (.tuple #[.int .i64 ((C.S.P.length + C.S.D.length : Nat) : Int), .int .i64 ((fl 256 (dyS C)).length : Int)]) ∧ Kp w w' := by
  have hD := cdirty h hT
  obtain ⟨mb, tb, A, h, hi, hn⟩ := h
  obtain ⟨c0, _, _⟩ := h.cells
  obtain ⟨n, D, hq, hm⟩ := h.m
  obtain ⟨N, hN⟩ : ∃ N, N = C.S.P.length + C.S.D.length := ⟨_, rfl⟩
  rw [← hN] at hm ⊢
  have hl := fun ty => hm.len ty
  obtain ⟨l, hll⟩ : ∃ l, l = fl 256 (dyS C) := ⟨_, rfl⟩
  rw [← hll] at hD ⊢
  clear h hi hn hm hq hN hll
  go_enter Tryd.func21, Tryd.ntmps21
  go_wp2_with fail
  refine hD.mono ?_; rintro e w1 ⟨v, rfl, hv, k1⟩
  obtain ⟨a, p, rfl⟩ : ∃ a p, v = .slice a l.length p := by
    have := hv.shape
    rwa [List.length_map] at this
  clear hD hv
  go_wp2
  go_ret2
  exact ⟨rfl, k1⟩

/-! ### Have, Known -/
theorem results_set2 {fn : Func} {p q : Tmp} (h : fn.results = #[.cell p 67, .cell q 67]) (tmps : Array Value) (w : World) (b c : Nat) (v u : Nat → Nat) (hp : tmps.getD p undef = .pointer (some ⟨b, 0, none⟩)) (hq : tmps.getD q undef = .pointer (some ⟨c, 0, none⟩)) (hA : A4 w b v) (hB : A4 w c u) :
    (results fn tmps).run Tryd.prog w = .ok (.tuple #[.agg (w4 v), .agg (w4 u)]) w := by
  have hp' : tmps[p]?.getD undef = .pointer (some ⟨b, 0, none⟩) := by simpa using hp
  have hq' : tmps[q]?.getD undef = .pointer (some ⟨c, 0, none⟩) := by simpa using hq
  simp [results, h, hp', hq', asAddr, load_a4 hA 67 _ Tryd.underlying67 size_set', load_a4 hB 67 _ Tryd.underlying67 size_set']
theorem st_no : stF hd0.o = noF := by funext i; exact isS_no
theorem sv_no4 {f : Nat → Bool} (h : f = noF) : Value.agg (w4 no4) = SV f := by rw [h, SV_no]; rfl
set_option maxRecDepth 100000 in
set_option maxHeartbeats 2000000 in
theorem cknown (h : Ca w0 w c q C X) {k : Int} (hk : iOk k) : Calls Tryd.prog 47 #[.pointer (some ⟨c, 0, none⟩), .int .i64 k] w fun e w' => e = .returned (SV (stF (C.H k).o)) ∧ Kp w w' := by
  obtain ⟨mb, tb, A, h, hi, hn⟩ := h
  have hF := fun w1 (k1 : Kp w w1) => find_any (h.kp k1).1 hk
  obtain ⟨V, hV⟩ : ∃ V, V = w.alloc (.cells (w4 no4) 67) := ⟨_, rfl⟩
  obtain ⟨B, hB⟩ : ∃ B, B = w.heap.size := ⟨_, rfl⟩
  have aV : A4 V B no4 := by rw [hV, hB]; exact A4.new w _ _
  have kV : Kp w V := by rw [hV]; exact (Kp.refl w).alloc _
  have hFV := hF V kV
  have HV : Hid (V = w.alloc (.cells #[.int .u64 0, .int .u64 0, .int .u64 0, .int .u64 0] 67) ∧ B = w.heap.size) := ⟨hV, hB⟩
  have HB := hid (And.intro aV (And.intro kV (show w.heap.size ≤ B by omega)))
  cases hin : inT C.S k with
  | false =>
    rw [hin, at_out hin] at hFV
    have HE : Hid (stF (C.H k).o = noF) := by show _ = _; rw [hi.outk hin]; exact st_no
    clear h hi hn hin hF hV hB aV kV
    go_enter Tryd.func47, Tryd.ntmps47
    go_upto_region 1 with fail
    rw [← HV.out.1, ← HV.out.2]
    clear HV
    go_wp2_with fail
    refine hFV.mono ?_; rintro e w1 ⟨rfl, k1⟩
    have a1 := HB.out.1.kept k1
    obtain ⟨b0, b1, b2, b3⟩ := a1.cells
    have hz := a1.z
    have HA : Hid (A4 ((((w1.setCell ⟨B, 0, none⟩ (.int .u64 0)).setCell ⟨B, 1, none⟩ (.int .u64 0)).setCell ⟨B, 2, none⟩ (.int .u64 0)).setCell ⟨B, 3, none⟩ (.int .u64 0)) B no4 ∧ Kp w ((((w1.setCell ⟨B, 0, none⟩ (.int .u64 0)).setCell ⟨B, 1, none⟩ (.int .u64 0)).setCell ⟨B, 2, none⟩ (.int .u64 0)).setCell ⟨B, 3, none⟩ (.int .u64 0))) := ⟨a1.put no4, (HB.out.2.1.trans k1).put4 HB.out.2.2 no4⟩
    clear hFV k1 a1
    go_wp2
    refine bodyPost_ret (results_set rfl _ _ B no4 rfl HA.out.1) rfl ?_
    exact ⟨by rw [sv_no4 HE.out], HA.out.2⟩
  | true =>
    rw [hin, at_in hin] at hFV
    have HC := hid (h.a k hin)
    obtain ⟨f, hf⟩ : ∃ f, f = stF (C.H k).o := ⟨_, rfl⟩
    have HF := hid hf
    rw [← hf]
    clear h hi hn hin hF hV hB aV kV hf
    go_enter Tryd.func47, Tryd.ntmps47
    go_upto_region 1 with fail
    rw [← HV.out.1, ← HV.out.2]
    clear HV
    go_wp2_with fail
    refine hFV.mono ?_; rintro e w1 ⟨rfl, k1⟩
    have a1 := HB.out.1.kept k1
    obtain ⟨b0, b1, b2, b3⟩ := a1.cells
    obtain ⟨d0, d1, d2, d3⟩ := ((HC.out.kp HB.out.2.1).kp k1).old.four
    rw [← HF.out] at d0 d1 d2 d3
    have hz := a1.z
    have HA : Hid (A4 (put4 w1 B (wd f)) B (wd f) ∧ Kp w (put4 w1 B (wd f))) := ⟨a1.put _, (HB.out.2.1.trans k1).put4 HB.out.2.2 _⟩
    unfold put4 at HA
    clear hFV k1 a1
    unfold ptO
    go_wp2
    refine bodyPost_ret (results_set rfl _ _ B (wd f) rfl HA.out.1) rfl ?_
    exact ⟨by rw [SV_w4], HA.out.2⟩
set_option maxRecDepth 100000 in
set_option maxHeartbeats 2000000 in
theorem chave (h : Ca w0 w c q C X) {k : Int} (hk : iOk k) : Calls Tryd.prog 46 #[.pointer (some ⟨c, 0, none⟩), .int .i64 k] w fun e w' => e = .returned (.tuple #[SV (stF (C.H k).n), SV (sdF (C.H k).d)]) ∧ Kp w w' := by
  obtain ⟨mb, tb, A, h, hi, hn⟩ := h
  have hF := fun w1 (k1 : Kp w w1) => find_any (h.kp k1).1 hk
  obtain ⟨U, hU⟩ : ∃ V, V = w.alloc (.cells (w4 no4) 67) := ⟨_, rfl⟩
  obtain ⟨V, hV⟩ : ∃ V, V = U.alloc (.cells (w4 no4) 67) := ⟨_, rfl⟩
  obtain ⟨B, hB⟩ : ∃ B, B = w.heap.size := ⟨_, rfl⟩
  obtain ⟨B2, hB2⟩ : ∃ B, B = w.heap.size + 1 := ⟨_, rfl⟩
  have hUs : U.heap.size = w.heap.size + 1 := by rw [hU]; simp
  have aU : A4 U B no4 := by rw [hU, hB]; exact A4.new w _ _
  have aV : A4 V B no4 := by rw [hV]; exact aU.alloc _
  have aV2 : A4 V B2 no4 := by rw [hV, hB2, ← hUs]; exact A4.new U _ _
  have kV : Kp w V := by rw [hV, hU]; exact ((Kp.refl w).alloc _).alloc _
  have hFV := hF V kV
  have HV : Hid (V = (w.alloc (.cells #[.int .u64 0, .int .u64 0, .int .u64 0, .int .u64 0] 67)).alloc (.cells #[.int .u64 0, .int .u64 0, .int .u64 0, .int .u64 0] 67) ∧ B = w.heap.size ∧ B2 = B + 1) := ⟨by rw [hV, hU]; rfl, hB, by omega⟩
  have HB := hid (And.intro (And.intro aV aV2) (And.intro kV (And.intro (show w.heap.size ≤ B by omega) (And.intro (show w.heap.size ≤ B2 by omega) (show B ≠ B2 by omega)))))
  have hne : B ≠ B2 := by omega
  cases hin : inT C.S k with
  | false =>
    rw [hin, at_out hin] at hFV
    have HE : Hid (stF (C.H k).n = noF ∧ sdF (C.H k).d = noF) := by show _ ∧ _; rw [hi.outk hin]; exact ⟨st_no, rfl⟩
    clear h hi hn hin hF hV hB aV kV hU hUs aU aV2 hB2
    go_enter Tryd.func46, Tryd.ntmps46
    go_upto_region 1 with fail
    rw [← HV.out.1, ← HV.out.2.1, ← HV.out.2.2]
    clear HV
    go_wp2_with fail
    refine hFV.mono ?_; rintro e w1 ⟨rfl, k1⟩
    have a1 := HB.out.1.1.kept k1
    have a2 := HB.out.1.2.kept k1
    obtain ⟨b0, b1, b2, b3⟩ := a1.cells
    obtain ⟨c0, c1, c2, c3⟩ := a2.cells
    have hz := a1.z
    have hz2 := a2.z
    have HA : Hid (A4 (put4 (put4 w1 B no4) B2 no4) B no4 ∧ A4 (put4 (put4 w1 B no4) B2 no4) B2 no4 ∧ Kp w (put4 (put4 w1 B no4) B2 no4)) := ⟨(a1.put no4).putFar HB.out.2.2.2.2 no4, (a2.putFar (Ne.symm HB.out.2.2.2.2) no4).put no4, ((HB.out.2.1.trans k1).put4 HB.out.2.2.1 no4).put4 HB.out.2.2.2.1 no4⟩
    clear hFV k1 a1 a2
    go_wp2
    refine bodyPost_ret (results_set2 rfl _ _ B B2 no4 no4 rfl rfl HA.out.1 HA.out.2.1) rfl ?_
    exact ⟨by rw [show SV (stF (C.H k).n) = Value.agg (w4 no4) from (sv_no4 HE.out.1).symm, show SV (sdF (C.H k).d) = Value.agg (w4 no4) from (sv_no4 HE.out.2).symm], HA.out.2.2⟩
  | true =>
    rw [hin, at_in hin] at hFV
    have HC := hid (h.a k hin)
    obtain ⟨f, hf⟩ : ∃ f, f = stF (C.H k).n := ⟨_, rfl⟩
    obtain ⟨g, hg⟩ : ∃ f, f = sdF (C.H k).d := ⟨_, rfl⟩
    have HF := hid (And.intro hf hg)
    have hAB : A k ≠ B ∧ A k ≠ B2 := by have := (h.a k hin).lt; omega
    rw [← hf, ← hg]
    obtain ⟨a, ha⟩ : ∃ a, a = A k := ⟨_, rfl⟩
    rw [← ha] at HC hFV hAB
    obtain ⟨hAB1, hAB2⟩ := hAB
    clear h hi hn hin hF hV hB aV kV hf hg hU hUs aU aV2 hB2 ha
    go_enter Tryd.func46, Tryd.ntmps46
    go_upto_region 1 with fail
    rw [← HV.out.1, ← HV.out.2.1, ← HV.out.2.2]
    clear HV
    go_wp2_with fail
    refine hFV.mono ?_; rintro e w1 ⟨rfl, k1⟩
    have a1 := HB.out.1.1.kept k1
    have a2 := HB.out.1.2.kept k1
    obtain ⟨b0, b1, b2, b3⟩ := a1.cells
    obtain ⟨c0, c1, c2, c3⟩ := a2.cells
    have hz := a1.z
    have hz2 := a2.z
    have cl := (HC.out.kp HB.out.2.1).kp k1
    obtain ⟨d0, d1, d2, d3⟩ := cl.now.four
    obtain ⟨i0, i1, i2, i3⟩ := cl.dirty
    rw [← HF.out.1] at d0 d1 d2 d3
    rw [← HF.out.2] at i0 i1 i2 i3
    have HA : Hid (A4 (put4 (put4 w1 B (wd f)) B2 (wd g)) B (wd f) ∧ A4 (put4 (put4 w1 B (wd f)) B2 (wd g)) B2 (wd g) ∧ Kp w (put4 (put4 w1 B (wd f)) B2 (wd g))) := ⟨(a1.put _).putFar HB.out.2.2.2.2 _, (a2.putFar (Ne.symm HB.out.2.2.2.2) _).put _, ((HB.out.2.1.trans k1).put4 HB.out.2.2.1 _).put4 HB.out.2.2.2.1 _⟩
    unfold put4 at HA
    clear hFV k1 a1 a2 cl
    unfold ptO
    go_upto_region 4 with fail
    go_region
    have HA2 := hid (And.intro HA.out.1.drew (And.intro HA.out.2.1.drew HA.out.2.2.drew))
    clear HA
    go_wp2
    refine bodyPost_ret (results_set2 rfl _ _ B B2 (wd f) (wd g) rfl rfl HA2.out.1 HA2.out.2.1) rfl ?_
    exact ⟨by rw [SV_w4, SV_w4], HA2.out.2.2⟩
end

end Go.Proofs.YtncdidklgpmefaaDoor
