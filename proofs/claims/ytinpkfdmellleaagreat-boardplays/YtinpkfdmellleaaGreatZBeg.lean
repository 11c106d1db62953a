/-
  A new array, opened, and the document's; arguments; nil boards. No condition.
-/
import Derived.Test.YtinpkfdmellleaaGreatZBo
import Derived.Test.YtinpkfdmellleaaGreatZRef
import Derived.Test.YtinpkfdmellleaaGreatZBase
namespace Go.Proofs.YtinpkfdmellleaaGreat
open Go.RowKit Plain
set_option linter.unusedVariables false

/-- a board in a pair, the power not failing. -/
structure PX (w0 w : World) (v x b r y : Nat) (T : List Nat) (K : KS) (sv mv : Value) : Prop where
  c0 : w.cell? ⟨v, 0, none⟩ = some (.pointer (some ⟨b, 0, none⟩))
  c1 : w.cell? ⟨v, 1, none⟩ = some (.pointer (some ⟨x, 0, none⟩))
  c2 : w.cell? ⟨v, 2, none⟩ = some (.pointer (some ⟨r, 0, none⟩))
  c3 : w.cell? ⟨v, 3, none⟩ = some (.pointer (some ⟨y, 0, none⟩))
  fz : ∀ o, w.frozen? ⟨v, o, none⟩ = false
  kx : KX w0 w x b T K sv mv
  nv : v ∉ x :: T
  lv : w0.heap.size ≤ v
  q : ∀ q, (sv.ownBlock = some q ∨ mv.ownBlock = some q) → q ≠ v
/-- two boards in a pair: the program's and the document's, apart. -/
structure Pd (w0 w : World) (v x b r y : Nat) (T R : List Nat) (K K2 : KS) (sv mv su mu : Value) : Prop where
  c0 : w.cell? ⟨v, 0, none⟩ = some (.pointer (some ⟨b, 0, none⟩))
  c1 : w.cell? ⟨v, 1, none⟩ = some (.pointer (some ⟨x, 0, none⟩))
  c2 : w.cell? ⟨v, 2, none⟩ = some (.pointer (some ⟨r, 0, none⟩))
  c3 : w.cell? ⟨v, 3, none⟩ = some (.pointer (some ⟨y, 0, none⟩))
  fz : ∀ o, w.frozen? ⟨v, o, none⟩ = false
  lv : w0.heap.size ≤ v
  kx : KX w0 w x b T K sv mv
  ky : YX w0 w y r R K2 su mu
  dj : ∀ t, t ∈ x :: T → t ∉ y :: R
  nv : v ∉ x :: T
  nw : v ∉ y :: R
  qa : ∀ q, (sv.ownBlock = some q ∨ mv.ownBlock = some q) → q ≠ v ∧ q ∉ y :: R
  qb : ∀ q, (su.ownBlock = some q ∨ mu.ownBlock = some q) → q ≠ v ∧ q ∉ x :: T
theorem Pd.px {w0 w : World} {v x b r y : Nat} {T R : List Nat} {K K2 : KS} {sv mv su mu : Value} (h : Pd w0 w v x b r y T R K K2 sv mv su mu) : PX w0 w v x b r y T K sv mv :=
  ⟨h.c0, h.c1, h.c2, h.c3, h.fz, h.kx, h.nv, h.lv, fun q hq => (h.qa q hq).1⟩
theorem Pd.vl {w0 w : World} {v x b r y : Nat} {T R : List Nat} {K K2 : KS} {sv mv su mu : Value} (h : Pd w0 w v x b r y T R K K2 sv mv su mu) : v < w.heap.size := World.block_lt_of_cell? _ _ h.c0
theorem Pd.kp {w0 w w' : World} {v x b r y : Nat} {T R : List Nat} {K K2 : KS} {sv mv su mu : Value} (h : Pd w0 w v x b r y T R K K2 sv mv su mu) (k : Kp w w') : Pd w0 w' v x b r y T R K K2 sv mv su mu :=
  ⟨k.held h.c0, k.held h.c1, k.held h.c2, k.held h.c3, fun o => ((k.sp []).frozen h.vl (by simp) o).trans (h.fz o), h.lv, h.kx.kp k, h.ky.kp k, h.dj, h.nv, h.nw, h.qa, h.qb⟩
/-- behind a call on the program's. -/
theorem Pd.one {w0 w w' : World} {v x b r y : Nat} {T R : List Nat} {K K2 K' : KS} {sv mv su mu : Value} (h : Pd w0 w v x b r y T R K K2 sv mv su mu) (k : Kl w0 w w' x b T K' (lbs sv mv)) : ∃ T' sv' mv', Pd w0 w' v x b r y T' R K' K2 sv' mv' su mu := by
  obtain ⟨T', s, m, h1, h2, h3, h4⟩ := k
  have hv := h.vl
  have lR : ∀ t, t ∈ y :: R → t < w.heap.size := fun t ht => by
    rcases List.mem_cons.1 ht with e | e
    · rw [e]; exact h.ky.hx
    · exact OL.dw.low h.ky.bay t e
  refine ⟨T', s, m, h2.held h.c0 h.nv, h2.held h.c1 h.nv, h2.held h.c2 h.nv, h2.held h.c3 h.nv, fun o => (h2.frozen hv h.nv o).trans (h.fz o), h.lv, h1, h.ky.sp h2 (fun t ht hm => h.dj t hm ht) (fun q hq => (h.qb q (.inl hq)).2) (fun q hq => (h.qb q (.inr hq)).2), fun t ht hm => ?_, nw_nc h3 hv h.nv, h.nw, fun q hq => ?_, fun q hq => ⟨(h.qb q hq).1, nw_nc h3 (hq.elim (fun e => (h.ky.q1 q e).2) (fun e => (h.ky.q2 q e).2)) (h.qb q hq).2⟩⟩
  · rcases nw_cons (x := x) h3 t ht with e | e
    · exact h.dj t e hm
    · have := lR t hm; omega
  · rcases h4 q hq with e | e
    · refine h.qa q ?_
      unfold lbs at e
      rcases List.mem_append.1 e with e | e
      · exact .inl (by simpa using e)
      · exact .inr (by simpa using e)
    · exact ⟨by omega, fun hm => by have := lR q hm; omega⟩
/-- behind a call on the document's. -/
theorem Pd.two {w0 w w' : World} {v x b r y : Nat} {T R : List Nat} {K K2 K' : KS} {sv mv su mu : Value} (h : Pd w0 w v x b r y T R K K2 sv mv su mu) (k : Yl w0 w w' y r R K' (lbs su mu)) : ∃ R' su' mu', Pd w0 w' v x b r y T R' K K' sv mv su' mu' := by
  obtain ⟨R', s, m, h1, h2, h3, h4⟩ := k
  have hv := h.vl
  have lT : ∀ t, t ∈ x :: T → t < w.heap.size := fun t ht => by
    rcases List.mem_cons.1 ht with e | e
    · rw [e]; exact h.kx.hx
    · exact OL.bw.low h.kx.bay t e
  refine ⟨R', s, m, h2.held h.c0 h.nw, h2.held h.c1 h.nw, h2.held h.c2 h.nw, h2.held h.c3 h.nw, fun o => (h2.frozen hv h.nw o).trans (h.fz o), h.lv, h.kx.sp h2 (fun t ht => h.dj t ht) (fun q hq => (h.qa q (.inl hq)).2) (fun q hq => (h.qa q (.inr hq)).2), h1, fun t ht hm => ?_, h.nv, nw_nc h3 hv h.nw, fun q hq => ⟨(h.qa q hq).1, nw_nc h3 (hq.elim (fun e => (h.kx.q1 q e).2) (fun e => (h.kx.q2 q e).2)) (h.qa q hq).2⟩, fun q hq => ?_⟩
  · rcases nw_cons (x := y) h3 t hm with e | e
    · exact h.dj t ht e
    · have := lT t ht; omega
  · rcases h4 q hq with e | e
    · refine h.qb q ?_
      unfold lbs at e
      rcases List.mem_append.1 e with e | e
      · exact .inl (by simpa using e)
      · exact .inr (by simpa using e)
    · exact ⟨by omega, fun hm => by have := lT q hm; omega⟩
set_option maxRecDepth 100000 in
set_option maxHeartbeats 8000000 in
theorem lopen_p {w0 w : World} {v b r : Nat} {P R : List Nat} {B : BS} {z : Nat} {s1 s3 : Value} (hB : Bw w0 w b P B) (hD : Dw w0 w r R B) (dj : ∀ t, t ∈ P → t ∉ R) (K : Kp w0 w) (v0 : w.cell? ⟨v, 0, none⟩ = some (.pointer (some ⟨b, 0, none⟩))) (v1 : w.cell? ⟨v, 1, none⟩ = some s1) (v2 : w.cell? ⟨v, 2, none⟩ = some (.pointer (some ⟨r, 0, none⟩))) (v3 : w.cell? ⟨v, 3, none⟩ = some s3) (fz : ∀ o, w.frozen? ⟨v, o, none⟩ = false) (hvP : v ∉ P) (hvR : v ∉ R) (hv : w0.heap.size ≤ v) (ev : Ev B z) (hep : (opnL B).ep < 9007199254740992) (hg : B.g + 100 < 1000000) (hE : opnE B = 0) :
    Calls Tryz.prog 39 #[.pointer (some ⟨v, 0, none⟩)] w fun e w' => e = .returned (.bool true) ∧ (∃ x y T R' sv mv su mu, Pd w0 w' v x b r y T R' (opnK B) (opnK B) sv mv su mu) ∧ Kp w0 w' := by
  have hOp := open_any hB K ev hep hg
  rw [hE] at hOp
  have HB := hid hB
  have HD := hid hD
  have HK := hid K
  have Hdj := hid dj
  have HvP := hid hvP
  have HvR := hid hvR
  have HV : Hid (w.cell? ⟨v, 0, none⟩ = some (.pointer (some ⟨b, 0, none⟩)) ∧ w.cell? ⟨v, 1, none⟩ = some s1 ∧ w.cell? ⟨v, 2, none⟩ = some (.pointer (some ⟨r, 0, none⟩)) ∧ w.cell? ⟨v, 3, none⟩ = some s3) := ⟨v0, v1, v2, v3⟩
  have Hfz := hid fz
  have Hep := hid hep
  have HEE := hid hE
  have hvl : v < w.heap.size := World.block_lt_of_cell? _ _ v0
  clear hB hD K dj hvP hvR v1 v2 v3 fz hep hE
  go_enter Tryz.func39, Tryz.ntmps39
  go_wp2_with fail
  refine hOp.mono ?_; rintro e w1 ⟨p, rfl, hx, _⟩
  obtain ⟨x, rfl, hxw, T3, sv, mv, X3, t3, n3, hl3⟩ := hx rfl
  have HX3 := hid X3
  have H3 : Hid (Sp P w w1 ∧ Nw w P T3 ∧ (∀ q, (sv.ownBlock = some q ∨ mv.ownBlock = some q) → w.heap.size ≤ q) ∧ w.heap.size ≤ x) := ⟨t3, n3, hl3, hxw⟩
  have HK1 : Hid (Kp w0 w1) := Sp.kp HK.out t3 (OL.bw.new HB.out)
  have HD1 : Hid (Dw w0 w1 r R B) := OL.dw.sp HD.out t3 (fun t ht hm => Hdj.out t hm ht)
  have hRl : Hid (∀ t, t ∈ R → t < w.heap.size) := OL.dw.low HD.out
  have hRO := ropen_any HD1.out HK1.out Hep.out hg
  rw [HEE.out] at hRO
  have c2 : w1.cell? ⟨v, 2, none⟩ = some (.pointer (some ⟨r, 0, none⟩)) := t3.held HV.out.2.2.1 HvP.out
  clear hOp X3 t3 n3 hl3 v0
  go_wp2_with fail
  refine hRO.mono ?_; rintro e w2 ⟨p, rfl, hy, _⟩
  obtain ⟨y, rfl, hyw, T4, sv', mv', Y4, t4, n4, hl4⟩ := hy rfl
  have HY4 := hid Y4
  have H4 : Hid (Nw w1 R T4 ∧ (∀ q, (sv'.ownBlock = some q ∨ mv'.ownBlock = some q) → w1.heap.size ≤ q) ∧ w1.heap.size ≤ y) := ⟨n4, hl4, hyw⟩
  have hvl1 : Hid (v < w1.heap.size) := Nat.lt_of_lt_of_le hvl H3.out.1.size
  have HvY : Hid (v ∉ y :: T4) := fun hm => by
    have h0 := hvl1.out
    rcases List.mem_cons.1 hm with e | e
    · omega
    · rcases n4 v e with h | h
      · exact HvR.out h
      · omega
  have HvX : Hid (v ∉ x :: T3) := fun hm => by
    rcases List.mem_cons.1 hm with e | e
    · have := H3.out.2.2.2; omega
    · rcases H3.out.2.1 v e with h | h
      · exact HvP.out h
      · omega
  have lT : Hid (∀ t, t ∈ x :: T3 → t < w1.heap.size) := fun t ht => by
    rcases List.mem_cons.1 ht with e | e
    · rw [e]; exact HX3.out.hx
    · exact OL.bw.low HX3.out.bay t e
  have HDJ : Hid (∀ t, t ∈ x :: T3 → t ∉ y :: T4) := fun t ht hm => by
    have h0 := lT.out t ht
    rcases List.mem_cons.1 hm with e | e
    · omega
    · rcases n4 t e with h | h
      · have h1 := hRl.out t h
        rcases List.mem_cons.1 ht with e | e
        · have := H3.out.2.2.2; omega
        · rcases H3.out.2.1 t e with h2 | h2
          · exact Hdj.out t h2 h
          · omega
      · omega
  have HQA : Hid (∀ q, (sv.ownBlock = some q ∨ mv.ownBlock = some q) → q ≠ v ∧ q ∉ y :: T4) := fun q hq => by
    have h0 := H3.out.2.2.1 q hq
    have h1 : q < w1.heap.size := hq.elim (fun e => (HX3.out.q1 q e).2) (fun e => (HX3.out.q2 q e).2)
    refine ⟨by omega, fun hm => ?_⟩
    rcases List.mem_cons.1 hm with e | e
    · omega
    · rcases n4 q e with h | h
      · have := hRl.out q h; omega
      · omega
  have HQB : Hid (∀ q, (sv'.ownBlock = some q ∨ mv'.ownBlock = some q) → q ≠ v ∧ q ∉ x :: T3) := fun q hq => by
    have h0 := hl4 q hq
    have h1 := hvl1.out
    exact ⟨by omega, fun hm => by have := lT.out q hm; omega⟩
  have HX4 : Hid (KX w0 w2 x b T3 (opnK B) sv mv) := HX3.out.sp t4 (fun t ht hm => by
    have h1 := hRl.out t hm
    rcases List.mem_cons.1 ht with e | e
    · have := H3.out.2.2.2; omega
    · rcases H3.out.2.1 t e with h | h
      · exact Hdj.out t h hm
      · omega) (fun q hq hm => by have h1 := hRl.out q hm; have := H3.out.2.2.1 q (.inl hq); omega) (fun q hq hm => by have h1 := hRl.out q hm; have := H3.out.2.2.1 q (.inr hq); omega)
  have HK2 : Hid (Kp w0 w2) := Sp.kp HK1.out t4 (OL.dw.new HD1.out)
  have d1 : w2.cell? ⟨v, 1, none⟩ = some s1 := t4.held (H3.out.1.held HV.out.2.1 HvP.out) HvR.out
  have d3 : w2.cell? ⟨v, 3, none⟩ = some s3 := t4.held (H3.out.1.held HV.out.2.2.2 HvP.out) HvR.out
  have D0 : Hid (w2.cell? ⟨v, 0, none⟩ = some (.pointer (some ⟨b, 0, none⟩)) ∧ w2.cell? ⟨v, 2, none⟩ = some (.pointer (some ⟨r, 0, none⟩))) := ⟨t4.held (H3.out.1.held HV.out.1 HvP.out) HvR.out, t4.held c2 HvR.out⟩
  have fz2 : ∀ o, w2.frozen? ⟨v, o, none⟩ = false := fun o => (t4.frozen (Nat.lt_of_lt_of_le hvl H3.out.1.size) HvR.out o).trans ((H3.out.1.frozen hvl HvP.out o).trans (Hfz.out o))
  have S2 : Hid (Sp [v] w2 ((w2.setCell ⟨v, 1, none⟩ (.pointer (some ⟨x, 0, none⟩))).setCell ⟨v, 3, none⟩ (.pointer (some ⟨y, 0, none⟩)))) := ((Sp.refl _ _).set v 1 (by simp) _).set v 3 (by simp) _
  have HC : Hid (((w2.setCell ⟨v, 1, none⟩ (.pointer (some ⟨x, 0, none⟩))).setCell ⟨v, 3, none⟩ (.pointer (some ⟨y, 0, none⟩))).cell? ⟨v, 0, none⟩ = some (.pointer (some ⟨b, 0, none⟩)) ∧ ((w2.setCell ⟨v, 1, none⟩ (.pointer (some ⟨x, 0, none⟩))).setCell ⟨v, 3, none⟩ (.pointer (some ⟨y, 0, none⟩))).cell? ⟨v, 1, none⟩ = some (.pointer (some ⟨x, 0, none⟩)) ∧ ((w2.setCell ⟨v, 1, none⟩ (.pointer (some ⟨x, 0, none⟩))).setCell ⟨v, 3, none⟩ (.pointer (some ⟨y, 0, none⟩))).cell? ⟨v, 2, none⟩ = some (.pointer (some ⟨r, 0, none⟩)) ∧ ((w2.setCell ⟨v, 1, none⟩ (.pointer (some ⟨x, 0, none⟩))).setCell ⟨v, 3, none⟩ (.pointer (some ⟨y, 0, none⟩))).cell? ⟨v, 3, none⟩ = some (.pointer (some ⟨y, 0, none⟩))) := by
    refine ⟨?_, ?_, ?_, ?_⟩
    · rw [set_other _ _ _ _ _ (by omega), set_other _ _ _ _ _ (by omega)]; exact D0.out.1
    · rw [set_other _ _ _ _ _ (by omega)]; exact set_same _ d1
    · rw [set_other _ _ _ _ _ (by omega), set_other _ _ _ _ _ (by omega)]; exact D0.out.2
    · exact set_same _ ((set_other _ _ _ _ _ (by omega)).trans d3)
  have Hf2 := hid fz2
  clear hRO Y4 t4 n4 hl4 hyw c2
  go_wp2
  go_ret
  refine ⟨rfl, ⟨x, y, T3, T4, sv, mv, sv', mv', HC.out.1, HC.out.2.1, HC.out.2.2.1, HC.out.2.2.2, fun o => ?_, hv, HX4.out.sp S2.out (fun t ht hm => HvX.out (by rw [← List.mem_singleton.1 hm]; exact ht)) (fun q hq hm => (HQA.out q (.inl hq)).1 (List.mem_singleton.1 hm)) (fun q hq hm => (HQA.out q (.inr hq)).1 (List.mem_singleton.1 hm)), HY4.out.sp S2.out (fun t ht hm => HvY.out (by rw [← List.mem_singleton.1 hm]; exact ht)) (fun q hq hm => (HQB.out q (.inl hq)).1 (List.mem_singleton.1 hm)) (fun q hq hm => (HQB.out q (.inr hq)).1 (List.mem_singleton.1 hm)), HDJ.out, HvX.out, HvY.out, HQA.out, HQB.out⟩, Sp.kp HK2.out S2.out (fun t ht => by rw [List.mem_singleton.1 ht]; exact hv)⟩
  rw [World.frozen?_setCell, World.frozen?_setCell]; exact Hf2.out o

def bgN (x : Int) : Nat := 4 + (max 0 x % 4).toNat
def bgS (x : Int) : Nat := 1 + (max 0 x % 6).toNat
noncomputable def bgB1 (x0 x1 : Int) : BS := fmS (nwB (bgN x0 : Nat) (110 : Nat)) (bgN x0 : Nat) (bgS x1 : Nat)
noncomputable def bgK (x0 x1 : Int) : KS := opnK (bgB1 x0 x1)
structure BgA (x0 x1 : Int) : Prop where
  n4 : 4 ≤ bgN x0
  n7 : bgN x0 ≤ 7
  s1 : 1 ≤ bgS x1
  s6 : bgS x1 ≤ 6
  f : fmE (nwB (bgN x0 : Nat) (110 : Nat)) (bgN x0 : Nat) (bgS x1 : Nat) = 0
  ev0 : Ev (nwB (bgN x0 : Nat) (110 : Nat)) 110
  pw0 : (nwB (bgN x0 : Nat) (110 : Nat)).pw = none
  g0 : (nwB (bgN x0 : Nat) (110 : Nat)).g + 10000 < 1000000
  ev1 : Ev (bgB1 x0 x1) 110
  g1 : (bgB1 x0 x1).g + 100 < 1000000
  l1 : (opnL (bgB1 x0 x1)).ep < 9007199254740992
  o : opnE (bgB1 x0 x1) = 0
  k : (bgK x0 x1).l = ⟨(bgN x0 : Nat), (bgS x1 : Nat), 2, List.replicate (bgN x0) 0, List.replicate (bgN x0) 0⟩
  bo : Bo (bgK x0 x1).b (bgK x0 x1).l 110
  dd : ∀ i, ddB (bgK x0 x1).b i = false
  len : (bgK x0 x1).b.ms.length = bgN x0
  g : (bgK x0 x1).b.g ≤ 2300
set_option maxRecDepth 20000 in
theorem bg_all (x0 x1 : Int) : BgA x0 x1 := by
  have h4 : 4 ≤ bgN x0 := by unfold bgN; omega
  have h7 : bgN x0 ≤ 7 := by unfold bgN; omega
  have hs1 : 1 ≤ bgS x1 := by unfold bgS; omega
  have hs6 : bgS x1 ≤ 6 := by unfold bgS; omega
  obtain ⟨q1, q2, q3, q4, q5⟩ := nw_bay (bgN x0) 110 (by omega) (by omega) (by omega) (by omega)
  have hf := fm_new (bgN x0) (bgS x1) 110 (by omega) (by omega) (by omega) (by omega) (by omega) (by omega)
  obtain ⟨a1, a2, a3, a4⟩ := fm_ok (z := 110) q1 q2 hf
  rw [q4] at a3
  have hlen1 : (bgB1 x0 x1).ms.length = bgN x0 := a4.trans q3
  have hal : ∀ i, ddB (bgB1 x0 x1) i = false := fun i => by
    by_cases h : i < bgN x0
    · exact a2 i (by rw [q3]; exact h)
    · unfold ddB
      rw [List.getD_eq_getElem?_getD, List.getElem?_eq_none (by rw [hlen1]; omega)]
      rfl
  obtain ⟨o1, o2, o3, o4, o5, o6, o7⟩ := opn_ok (B := bgB1 x0 x1) (L := newL (bgN x0 : Nat) (bgS x1 : Nat)) (z := 110) a1 (by show (1 : Int) + 1 ≤ _; omega) ⟨0, by rw [hlen1]; omega, hal 0⟩
  have g1 : (bgB1 x0 x1).g ≤ 0 + 32 * 69 := a3
  refine ⟨h4, h7, hs1, hs6, hf, q2, q1, by rw [q4]; omega, a1.ev, by omega, by rw [o2]; show (1 : Int) < _; omega, o1, ?_, o4, fun i => (o5 i).trans (hal i), ?_, ?_⟩
  · show (opnK (bgB1 x0 x1)).l = _
    rw [o3, wd_none hal, wd_none hal]
    unfold newL
    simp only [Int.toNat_natCast]
    rfl
  · unfold bgK; rw [o7]; exact hlen1
  · have h1 : (bgK x0 x1).b.g ≤ (bgB1 x0 x1).g + 64 := o6
    omega
set_option maxRecDepth 100000 in
set_option maxHeartbeats 8000000 in
theorem lbegin_p (x0 x1 : Int) (hx0 : -9223372036854775808 ≤ x0 ∧ x0 ≤ 9223372036854775807) (hx1 : -9223372036854775808 ≤ x1 ∧ x1 ≤ 9223372036854775807) (w : World) : Calls Tryz.prog 8 #[.agg #[.int .i64 x0, .int .i64 x1]] w fun e w' => ∃ v x b r y T R sv mv su mu, e = .returned (.tuple #[.pointer (some ⟨v, 0, none⟩), .bool true]) ∧ Pd w w' v x b r y T R (bgK x0 x1) (bgK x0 x1) sv mv su mu ∧ Kp w w' := by
  have A := hid (bg_all x0 x1)
  have hmax := @imax Tryz.prog
  obtain ⟨h01, h02⟩ := hx0
  obtain ⟨h11, h12⟩ := hx1
  have tm0 : (max 0 x0).tmod 4 = (max 0 x0) % 4 := Int.tmod_eq_emod_of_nonneg (by omega)
  have tm1 : (max 0 x1).tmod 6 = (max 0 x1) % 6 := Int.tmod_eq_emod_of_nonneg (by omega)
  obtain ⟨r0, hr0⟩ : ∃ r : Int, r = (max 0 x0) % 4 := ⟨_, rfl⟩
  obtain ⟨r1, hr1⟩ : ∃ r : Int, r = (max 0 x1) % 6 := ⟨_, rfl⟩
  rw [← hr0] at tm0
  rw [← hr1] at tm1
  have b0 : 0 ≤ r0 ∧ r0 < 4 := by omega
  have b1 : 0 ≤ r1 ∧ r1 < 6 := by omega
  obtain ⟨b01, b02⟩ := b0
  obtain ⟨b11, b12⟩ := b1
  have hN : Hid ((4 : Int) + r0 = ((bgN x0 : Nat) : Int)) := by show _ = _; unfold bgN; omega
  have hS : Hid ((1 : Int) + r1 = ((bgS x1 : Nat) : Int)) := by show _ = _; unfold bgS; omega
  have kA : Hid (Kp w (w.alloc (.cells #[.int .i64 x0, .int .i64 x1] 22)).drew) := ((Kp.refl w).alloc _).drew
  clear hr0 hr1
  go_enter Tryz.func8, Tryz.ntmps8
  go_wp2_with fail
  go_region
  rw [hN.out, hS.out]
  obtain ⟨N, eN⟩ : ∃ N, N = bgN x0 := ⟨_, rfl⟩
  obtain ⟨S, eS⟩ : ∃ S, S = bgS x1 := ⟨_, rfl⟩
  rw [← eN, ← eS]
  obtain ⟨W, hW⟩ : ∃ W, W = (w.alloc (.cells #[.int .i64 x0, .int .i64 x1] 22)).drew := ⟨_, rfl⟩
  rw [← hW] at kA ⊢
  have HN : Hid (N = bgN x0) := eN
  have HS : Hid (S = bgS x1) := eS
  have hNw := bw_new ((N : Nat) : Int) ((110 : Nat) : Int) w W kA.out
  clear hW eN eS hN hS tm0 tm1 b01 b02 b11 b12 h01 h02 h11 h12 hmax
  go_wp2_with fail
  refine hNw.mono ?_; rintro e w1 ⟨b, P, rfl, hB1, k1, hP1⟩
  have HB1 := hid hB1
  have K1 : Hid (Kp w w1) := kA.out.trans k1
  have hDn := dw_new ((N : Nat) : Int) ((110 : Nat) : Int) w w1 K1.out
  clear hNw hB1 k1 hP1
  go_wp2_with fail
  refine hDn.mono ?_; rintro e w2 ⟨r, R, rfl, hD2, k2, hR2⟩
  have K2 : Hid (Kp w w2) := K1.out.trans k2
  have HB2 : Hid (Bw w w2 b P (nwB (N : Nat) (110 : Nat))) := OL.bw.sp HB1.out (k2.sp []) (fun _ _ h => by cases h)
  have HD2 := hid hD2
  have Hdj : Hid (∀ t, t ∈ P → t ∉ R) := fun t ht hm => by have h1 := OL.bw.low HB1.out t ht; have h2 := hR2 t hm; omega
  have HPl : Hid (∀ t, t ∈ P → t < w2.heap.size) := OL.bw.low HB2.out
  have HRl : Hid (∀ t, t ∈ R → t < w2.heap.size) := OL.dw.low hD2
  clear hDn hD2 k2 hR2 HB1
  have kV : Hid (Kp w2 (w2.alloc (.cells #[.pointer (some ⟨b, 0, none⟩), .pointer none, .pointer (some ⟨r, 0, none⟩), .pointer none] 80))) := (Kp.refl w2).alloc _
  have hVc : Hid (∀ (j : Nat) (u : Value), #[Value.pointer (some ⟨b, 0, none⟩), .pointer none, .pointer (some ⟨r, 0, none⟩), .pointer none][j]? = some u → (w2.alloc (.cells #[.pointer (some ⟨b, 0, none⟩), .pointer none, .pointer (some ⟨r, 0, none⟩), .pointer none] 80)).cell? ⟨w2.heap.size, j, none⟩ = some u) := fun j u hu => by
    rw [World.cell?_alloc_at _ _ _ _ rfl]; exact hu
  have hVz : Hid (∀ o, (w2.alloc (.cells #[.pointer (some ⟨b, 0, none⟩), .pointer none, .pointer (some ⟨r, 0, none⟩), .pointer none] 80)).frozen? ⟨w2.heap.size, o, none⟩ = false) := fun o => by simp
  obtain ⟨V, hV⟩ : ∃ V, V = w2.alloc (.cells #[.pointer (some ⟨b, 0, none⟩), .pointer none, .pointer (some ⟨r, 0, none⟩), .pointer none] 80) := ⟨_, rfl⟩
  have HV := hid hV
  rw [← hV] at kV hVc hVz
  have KV : Hid (Kp w V) := K2.out.trans kV.out
  have HBV : Hid (Bw w V b P (nwB (N : Nat) (110 : Nat))) := OL.bw.sp HB2.out (kV.out.sp []) (fun _ _ h => by cases h)
  have HDV : Hid (Dw w V r R (nwB (N : Nat) (110 : Nat))) := OL.dw.sp HD2.out (kV.out.sp []) (fun _ _ h => by cases h)
  have x0c := hVc.out 0 _ rfl
  have x2c := hVc.out 2 _ rfl
  have nvP : w2.heap.size ∉ P := fun ht => by have := HPl.out _ ht; omega
  have nvR : w2.heap.size ∉ R := fun ht => by have := HRl.out _ ht; omega
  have hv2 : w2.heap.size < V.heap.size := World.block_lt_of_cell? _ _ x0c
  have hF1 : ∀ U, Kp V U → Calls Tryz.prog 19 #[.pointer (some ⟨b, 0, none⟩), .agg #[.int .i64 (N : Int), .int .i64 (S : Int)]] U fun e U' => e = .returned (.int .i64 0) ∧ Nz Bw w V U' b P (bgB1 x0 x1) := fun U k => by
    have h1 := format_any (OL.bw.sp HBV.out (k.sp []) (fun _ _ h => by cases h)) (KV.out.trans k) (N : Int) (S : Int) (by rw [HN.out]; exact A.out.ev0) (by rw [HN.out]; exact A.out.pw0) (by rw [HN.out]; exact A.out.g0)
    rw [show fmE (nwB (N : Nat) (110 : Nat)) (N : Int) (S : Int) = 0 by rw [HN.out, HS.out]; exact A.out.f, show fmS (nwB (N : Nat) (110 : Nat)) (N : Int) (S : Int) = bgB1 x0 x1 by rw [HN.out, HS.out]; rfl] at h1
    exact h1.mono fun e U' ⟨he, hn⟩ => ⟨he, hn.off k⟩
  have hF2 : ∀ U, Nz Bw w V U b P (bgB1 x0 x1) → Calls Tryz.prog 20 #[.pointer (some ⟨r, 0, none⟩), .agg #[.int .i64 (N : Int), .int .i64 (S : Int)]] U fun e U' => e = .returned (.int .i64 0) ∧ Nz Bw w V U b P (bgB1 x0 x1) ∧ Nz Dw w U U' r R (bgB1 x0 x1) := fun U hz => by
    have hKU : Kp w U := hz.below OL.bw HBV.out KV.out
    have hDU : Dw w U r R (nwB (N : Nat) (110 : Nat)) := by
      obtain ⟨_, _, q, _⟩ := hz
      exact OL.dw.sp HDV.out q (fun t ht hm => Hdj.out t hm ht)
    have h1 := rformat_any hDU hKU (N : Int) (S : Int) (by rw [HN.out]; exact A.out.ev0) (by rw [HN.out]; exact A.out.pw0) (by rw [HN.out]; exact A.out.g0)
    rw [show fmE (nwB (N : Nat) (110 : Nat)) (N : Int) (S : Int) = 0 by rw [HN.out, HS.out]; exact A.out.f, show fmS (nwB (N : Nat) (110 : Nat)) (N : Int) (S : Int) = bgB1 x0 x1 by rw [HN.out, HS.out]; rfl] at h1
    exact h1.mono fun e U' ⟨he, hn⟩ => ⟨he, hz, hn⟩
  have hSS : ∀ U, Kp V U → U.cell? ⟨w2.heap.size, 0, none⟩ = some (.pointer (some ⟨b, 0, none⟩)) ∧ U.cell? ⟨w2.heap.size, 2, none⟩ = some (.pointer (some ⟨r, 0, none⟩)) := fun U k => ⟨k.held x0c, k.held x2c⟩
  have hSZ : ∀ U, Nz Bw w V U b P (bgB1 x0 x1) → U.cell? ⟨w2.heap.size, 0, none⟩ = some (.pointer (some ⟨b, 0, none⟩)) ∧ U.cell? ⟨w2.heap.size, 2, none⟩ = some (.pointer (some ⟨r, 0, none⟩)) := fun U ⟨_, _, k, _⟩ => ⟨k.held x0c nvP, k.held x2c nvP⟩
  have hSY : ∀ U U', Nz Bw w V U b P (bgB1 x0 x1) → Nz Dw w U U' r R (bgB1 x0 x1) → U'.cell? ⟨w2.heap.size, 0, none⟩ = some (.pointer (some ⟨b, 0, none⟩)) ∧ U'.cell? ⟨w2.heap.size, 2, none⟩ = some (.pointer (some ⟨r, 0, none⟩)) := fun U U' ⟨_, _, k, _⟩ ⟨_, _, q, _⟩ => ⟨q.held (k.held x0c nvP) nvR, q.held (k.held x2c nvP) nvR⟩
  have hr0 : Kp V V.drew := (Kp.refl V).drew
  clear hV
  go_upto_region 3 with fail
  rw [← HV.out]
  clear HV
  go_region_held3 (fun U => U.cell? ⟨w2.heap.size, 0, none⟩ = some (.pointer (some ⟨b, 0, none⟩)) ∧ U.cell? ⟨w2.heap.size, 2, none⟩ = some (.pointer (some ⟨r, 0, none⟩))) (first | exact hSS _ (by assumption) | exact hSY _ _ (by assumption) (by assumption) | exact hSZ _ (by assumption)) (first | (go_at_call 19; refine (hF1 _ (by assumption)).mono ?_; rintro e wf ⟨rfl, zf⟩) | (go_at_call 20; refine (hF2 _ (by assumption)).mono ?_; rintro e wg ⟨rfl, zf2, zg⟩))
  have KF : Hid (Kp w wf) := zf.below OL.bw HBV.out KV.out
  obtain ⟨P2, oP, sP, nP⟩ := zf
  have HDf : Hid (Dw w wf r R (nwB (N : Nat) (110 : Nat))) := OL.dw.sp HDV.out sP (fun t ht hm => Hdj.out t hm ht)
  have KG : Hid (Kp w wg) := zg.below OL.dw HDf.out KF.out
  obtain ⟨R2, oR, sR, nR⟩ := zg
  have hP2R : ∀ t, t ∈ P2 → t ∉ R := fun t ht hm => by
    rcases nP t ht with h | h
    · exact Hdj.out t h hm
    · have := HRl.out t hm; omega
  have oPg : Bw w wg b P2 (bgB1 x0 x1) := OL.bw.sp oP sR hP2R
  have hPl := OL.bw.low oP
  have dj2 : ∀ t, t ∈ P2 → t ∉ R2 := fun t ht hm => by
    rcases nR t hm with h | h
    · exact hP2R t ht h
    · have := hPl t ht; omega
  have vP2 : w2.heap.size ∉ P2 := nw_nt nP hv2 nvP
  have vR2 : w2.heap.size ∉ R2 := nw_nt nR (Nat.lt_of_lt_of_le hv2 sP.size) nvR
  have hLo := lopen_p oPg oR dj2 KG.out (sR.held (sP.held x0c nvP) nvR) (sR.held (sP.held (hVc.out 1 _ rfl) nvP) nvR) (sR.held (sP.held x2c nvP) nvR) (sR.held (sP.held (hVc.out 3 _ rfl) nvP) nvR) (fun o => (sR.frozen (Nat.lt_of_lt_of_le hv2 sP.size) nvR o).trans ((sP.frozen hv2 nvP o).trans (hVz.out o))) vP2 vR2 (by have := K2.out.size; omega) A.out.ev1 A.out.l1 A.out.g1 A.out.o
  have HBK : Hid (opnK (bgB1 x0 x1) = bgK x0 x1) := rfl
  clear hF1 hF2 hSS hSZ hSY hr0 oP oR sP sR nP nR oPg hPl dj2 hP2R vP2 vR2 zf2 x0c x2c nvP nvR hv2
  go_wp2_with fail
  refine hLo.mono ?_; rintro e w5 ⟨rfl, ⟨x, y, T, R5, sv, mv, su, mu, px⟩, k5⟩
  have PX5 := hid px
  have K5 := hid k5
  clear hLo px k5
  go_wp2
  go_ret2
  exact ⟨_, x, b, r, y, T, R5, sv, mv, su, mu, rfl, by rw [← HBK.out]; exact PX5.out, K5.out⟩
theorem lbegin_any (x0 x1 : Int) (hx0 : -9223372036854775808 ≤ x0 ∧ x0 ≤ 9223372036854775807) (hx1 : -9223372036854775808 ≤ x1 ∧ x1 ≤ 9223372036854775807) (w : World) : Calls Tryz.prog 8 #[.agg #[.int .i64 x0, .int .i64 x1]] w fun e w' => ∃ v x b r y T sv mv, e = .returned (.tuple #[.pointer (some ⟨v, 0, none⟩), .bool true]) ∧ PX w w' v x b r y T (bgK x0 x1) sv mv ∧ Kp w w' :=
  (lbegin_p x0 x1 hx0 hx1 w).mono fun e w' ⟨v, x, b, r, y, T, R, sv, mv, su, mu, h1, h2, h3⟩ => ⟨v, x, b, r, y, T, sv, mv, h1, h2.px, h3⟩

end Go.Proofs.YtinpkfdmellleaaGreat

namespace Go.Proofs.YtinpkfdmellleaaGreat
open Go.ChangeShapes Go.WideShapes Go.ChangeAt Go.RowKit Plain
set_option linter.unusedVariables false

def noK : Value × List Nat := (.slice none 0 0, [])
/-- lists of words as they came in. -/
structure KL (w : World) (v : Value) (K : List (Value × List Nat)) : Prop where
  h : ∃ a cap, v = .slice a K.length cap ∧ K.length ≤ cap ∧ cap ≤ 9223372036854775807 ∧ (0 < K.length → ∃ g off, a = some ⟨g, off, none⟩ ∧ ∀ i, i < K.length → w.cell? ⟨g, off + i, none⟩ = some (K.getD i noK).1)
  k : ∀ i, i < K.length → KeIn w (K.getD i noK).1 (K.getD i noK).2
  c : ∀ i, i < K.length → ∀ a n c, (K.getD i noK).1 = .slice a n c → n ≤ c
theorem KL.kp {w w' : World} {v : Value} {K : List (Value × List Nat)} (h : KL w v K) (k : Kp w w') : KL w' v K := by
  obtain ⟨a, cap, rfl, h1, h2, h3⟩ := h.h
  refine ⟨⟨a, cap, rfl, h1, h2, fun h0 => ?_⟩, fun i hi => (h.k i hi).kp k, h.c⟩
  obtain ⟨g, off, rfl, h4⟩ := h3 h0
  exact ⟨g, off, rfl, fun i hi => k.held (h4 i hi)⟩
/-- an act. -/
structure A5 where
  op : Int
  i_ : Int
  at_ : Int
  odd : Bool
  kv : Value
  K : List (Value × List Nat)
def a5cs (a : A5) : List Value := [.int .i64 a.op, .int .i64 a.i_, .int .i64 a.at_, .bool a.odd, a.kv]
def a5V (a : A5) : Value := .agg (a5cs a).toArray
structure A5Ok (w : World) (a : A5) : Prop where
  w1 : (Lit.int .i64 a.op).wf = true
  w2 : (Lit.int .i64 a.i_).wf = true
  w3 : (Lit.int .i64 a.at_).wf = true
  k : KL w a.kv a.K
def noA5 : A5 := ⟨0, 0, 0, false, .slice none 0 0, []⟩
structure Acts5 (w : World) (v : Value) (L : List A5) : Prop where
  h : ∃ a cap, v = .slice a L.length cap ∧ L.length ≤ cap ∧ cap ≤ 9223372036854775807 ∧ (0 < L.length → ∃ g off, a = some ⟨g, off, none⟩ ∧ ∀ i, i < L.length → w.rangeAt g (off + i * 5) (a5cs (L.getD i noA5)))
  ok : ∀ i, i < L.length → A5Ok w (L.getD i noA5)
theorem A5Ok.kp {w w' : World} {a : A5} (h : A5Ok w a) (k : Kp w w') : A5Ok w' a := ⟨h.w1, h.w2, h.w3, h.k.kp k⟩
theorem Acts5.kp {w w' : World} {v : Value} {L : List A5} (h : Acts5 w v L) (k : Kp w w') : Acts5 w' v L := by
  obtain ⟨a, cap, rfl, h1, h2, h3⟩ := h.h
  refine ⟨⟨a, cap, rfl, h1, h2, fun h0 => ?_⟩, fun i hi => (h.ok i hi).kp k⟩
  obtain ⟨g, off, rfl, h4⟩ := h3 h0
  exact ⟨g, off, rfl, fun i hi => (k.sp []).range (h4 i hi) (by simp)⟩
theorem a5_cells {w : World} {g o : Nat} {a : A5} (h : w.rangeAt g o (a5cs a)) : w.cell? ⟨g, o, none⟩ = some (.int .i64 a.op) ∧ w.cell? ⟨g, o + 1, none⟩ = some (.int .i64 a.i_) ∧ w.cell? ⟨g, o + 2, none⟩ = some (.int .i64 a.at_) ∧ w.cell? ⟨g, o + 3, none⟩ = some (.bool a.odd) ∧ w.cell? ⟨g, o + 4, none⟩ = some a.kv :=
  ⟨h 0 _ rfl, h 1 _ rfl, h 2 _ rfl, h 3 _ rfl, h 4 _ rfl⟩
theorem Acts5.take {w : World} {v : Value} {L : List A5} (h : Acts5 w v L) (m : Nat) (hm : m ≤ L.length) : ∃ a cap, v = .slice a L.length cap ∧ L.length ≤ cap ∧ cap ≤ 9223372036854775807 ∧ (0 < m → ∃ g off, a = some ⟨g, off, none⟩ ∧ ∀ i, i < m → w.rangeAt g (off + i * 5) (a5cs (L.getD i noA5))) := by
  obtain ⟨a, cap, rfl, h1, h2, h3⟩ := h.h
  refine ⟨a, cap, rfl, h1, h2, fun h0 => ?_⟩
  obtain ⟨g, off, rfl, h4⟩ := h3 (by omega)
  exact ⟨g, off, rfl, fun i hi => h4 i (by omega)⟩

section
variable {H : Type} {enc : TypeId × Value → H} {P : Program}
theorem open_words2 {t e : TypeId} {W : World} {fuel : Nat} {v : Value} {x : DataW H × List MemPlace} (ht : P.underlying t = some (.slice e)) (he : P.underlying e = some (.int .u64)) (hc : P.cellsOf e = 1)
    (hf : DataW.trod enc P W 0 (fun _ => true) true fuel t [v] = some x) : ∃ ks : List Nat, KeIn W v ks ∧ ∀ a n c, v = .slice a n c → n ≤ c := by
  obtain ⟨ks, hk⟩ := open_words ht he hc hf
  refine ⟨ks, hk, fun a n c e => ?_⟩
  subst e
  rcases open_ints ht he hc hf with ⟨hcs, _⟩ | ⟨a', len, cap, zs, hcs, _, hl, hm, hz, _, hcell, hwf⟩
  · simp at hcs
    omega
  · simp at hcs
    obtain ⟨_, rfl, rfl⟩ := hcs
    exact hl
theorem open_lists {t e f : TypeId} {W : World} {fuel : Nat} {v : Value} {x : DataW H × List MemPlace} (ht : P.underlying t = some (.slice e)) (he : P.underlying e = some (.slice f)) (hf : P.underlying f = some (.int .u64)) (ce : P.cellsOf e = 1) (cf : P.cellsOf f = 1)
    (h : DataW.trod enc P W 0 (fun _ => true) true fuel t [v] = some x) : ∃ K : List (Value × List Nat), KL W v K := by
  rcases Go.Deep.open_slice ht h with ⟨hcs, _⟩ | ⟨a, len, cap, m, n, D, Pl, hcs, _, hl, hm, hmm, _, hx⟩
  · simp at hcs
    subst hcs
    exact ⟨[], ⟨⟨none, 0, rfl, by simp, by omega, fun h => absurd h (by simp)⟩, fun i hi => absurd hi (by simp), fun i hi => absurd hi (by simp)⟩⟩
  · simp at hcs
    subst hcs
    simp only [if_true] at hmm
    have hm2 : cap ≤ 9223372036854775807 := by unfold maxLen at hm; omega
    have each : ∀ i, i < m → ∃ z : Value × List Nat, W.cell? (a.add i) = some z.1 ∧ KeIn W z.1 z.2 ∧ ∀ a n c, z.1 = .slice a n c → n ≤ c := fun i hi => by
      obtain ⟨cs', h1, h2⟩ := hx i hi
      rw [ce, Nat.mul_one] at h1
      obtain ⟨_, hlen, hcell⟩ := World.cells?_some h1
      match cs', hlen with
      | [u], _ =>
        obtain ⟨ks, h3, h4⟩ := open_words2 he hf cf h2
        refine ⟨(u, ks), ?_, h3, h4⟩
        have := hcell 0 (by omega)
        simpa [Addr.add] using this
    have inh : Inhabited (Value × List Nat) := ⟨noK⟩
    obtain ⟨Z, hZ⟩ := Go.Deep.choose_lt each
    have hlen : ((List.range len).map Z).length = len := by simp
    have hat : ∀ i, i < len → ((List.range len).map Z).getD i noK = Z i := fun i hi => by simp [List.getD_eq_getElem?_getD, hi]
    refine ⟨(List.range len).map Z, ⟨⟨some a, cap, by rw [hlen], by rw [hlen]; exact hl, hm2, fun h0 => ?_⟩, fun i hi => ?_, fun i hi => ?_⟩⟩
    · rw [hlen] at h0
      obtain ⟨b, off, spot⟩ := a
      have h00 := (hZ 0 (by omega)).1
      have hspot : spot = none := by simpa [Addr.add] using World.cell?_spot h00
      subst hspot
      refine ⟨b, off, rfl, fun i hi => ?_⟩
      rw [hlen] at hi
      rw [hat i hi]
      have h1 := (hZ i (by omega)).1
      rw [Addr.add_mid] at h1
      exact h1
    · rw [hlen] at hi
      rw [hat i hi]
      exact (hZ i (by omega)).2.1
    · rw [hlen] at hi
      rw [hat i hi]
      exact (hZ i (by omega)).2.2
theorem open_act17 {t f0 f1 f2 f4 f5 : TypeId} {W : World} {fuel : Nat} {cs : List Value} {x : DataW H × List MemPlace} (F : Array Field) (hu : P.underlying t = some (.struct F)) (hF : F.toList.map (fun f => (f.type, f.offset)) = [(f0, 0), (f1, 1), (f2, 2), (f4, 3), (f5, 4)])
    (c0 : P.cellsOf f0 = 1) (c1 : P.cellsOf f1 = 1) (c2 : P.cellsOf f2 = 1) (c4 : P.cellsOf f4 = 1) (c5 : P.cellsOf f5 = 1) (ct : P.cellsOf t = 5)
    (e0 : P.underlying f0 = some (.int .i64)) (e1 : P.underlying f1 = some (.int .i64)) (e2 : P.underlying f2 = some (.int .i64)) (e4 : P.underlying f4 = some .bool) (e f : TypeId) (e5 : P.underlying f5 = some (.slice e)) (e6 : P.underlying e = some (.slice f)) (e7 : P.underlying f = some (.int .u64)) (c6 : P.cellsOf e = 1) (c7 : P.cellsOf f = 1)
    (h : DataW.trod enc P W 0 (fun _ => true) true fuel t cs = some x) : ∃ a : A5, cs = a5cs a ∧ A5Ok W a := by
  obtain ⟨xs, k, hk, hxy, hcl, hxl, hff⟩ := DataW.trod_struct hu h
  have hsz : F.toList.length = 5 := by have := congrArg List.length hF; simpa using this
  obtain ⟨Fl⟩ := F
  match Fl, hsz with
  | [g0, g1, g2, g4, g5], _ =>
    simp only [List.map_cons, List.map_nil, List.cons.injEq, Prod.mk.injEq, and_true] at hF
    obtain ⟨⟨rfl, o0⟩, ⟨rfl, o1⟩, ⟨rfl, o2⟩, ⟨rfl, o4⟩, ⟨rfl, o5⟩⟩ := hF
    have q0 := hff 0 g0 rfl
    have q1 := hff 1 g1 rfl
    have q2 := hff 2 g2 rfl
    have q4 := hff 3 g4 rfl
    have q5 := hff 4 g5 rfl
    rw [ct] at hcl
    match xs, hxl, cs, hcl with
    | [y0, y1, y2, y4, y5], _, [v0, v1, v2, v4, v5], _ =>
      simp [o0, o1, o2, o4, o5, c0, c1, c2, c4, c5] at q0 q1 q2 q4 q5
      obtain ⟨a, ea, _, wa⟩ := DataW.trod_int e0 q0
      obtain ⟨i, ei, _, wi⟩ := DataW.trod_int e1 q1
      obtain ⟨b, eb, _, wb⟩ := DataW.trod_int e2 q2
      obtain ⟨d, ed, _⟩ := DataW.trod_bool e4 q4
      obtain ⟨K, hK⟩ := open_lists e5 e6 e7 c6 c7 q5
      simp at ea ei eb ed
      subst ea; subst ei; subst eb; subst ed
      exact ⟨⟨a, i, b, d, v5, K⟩, rfl, ⟨wa, wi, wb, hK⟩⟩
end

set_option maxRecDepth 100000 in
theorem open_a5 {H : Type} {enc : TypeId × Value → H} {W : World} {r : Reach} {b0 : Nat} {v : Value} {d : DataW H} {ps : List MemPlace} (hval : Value.okWide Tryz.prog W r b0 30 v) (hd : DataW.Trod enc Tryz.prog W 0 (fun _ => true) true 30 v d ps) : ∃ a : A5, v = a5V a ∧ A5Ok W a := by
  have hp : ∃ A, v = .agg A := by
    simp only [Value.okWide, Tryz.underlying30] at hval
    obtain ⟨cs, h1, h2, _⟩ := hval
    exact ⟨cs, h1⟩
  obtain ⟨A, rfl⟩ := hp
  obtain ⟨fuel, hf⟩ := hd
  obtain ⟨a, h1, h2⟩ := open_act17 (enc := enc) _ Tryz.underlying30 rfl (by kernel_rfl) (by kernel_rfl) (by kernel_rfl) (by kernel_rfl) (by kernel_rfl) (by kernel_rfl) Tryz.underlying3 Tryz.underlying3 Tryz.underlying3 Tryz.underlying4 159 180 Tryz.underlying28 Tryz.underlying159 Tryz.underlying180 (by kernel_rfl) (by kernel_rfl) hf
  refine ⟨a, ?_, h2⟩
  simp only [Value.cells] at h1
  unfold a5V
  rw [← h1]
set_option maxRecDepth 100000 in
theorem open_as5 {H : Type} {enc : TypeId × Value → H} {W : World} {b0 : Nat} {v : Value} {d : DataW H} {ps : List MemPlace} (hv : Value.okWide Tryz.prog W .any b0 23 v) (h : DataW.Trod enc Tryz.prog W 0 (fun _ => true) true 23 v d ps) : ∃ L : List A5, Acts5 W v L := by
  obtain ⟨a0, len, cap, rfl⟩ := okWide_slice Tryz.underlying23 hv
  obtain ⟨fuel, hf⟩ := h
  rcases Go.Deep.open_slice Tryz.underlying23 hf with ⟨hcs, _⟩ | ⟨a, len', cap', m, n, D, Pl, hcs, _, hl, hm, hmm, _, hx⟩
  · simp [Value.cells] at hcs
    obtain ⟨rfl, rfl, rfl⟩ := hcs
    exact ⟨[], ⟨⟨none, 0, rfl, by simp, by omega, fun h => absurd h (by simp)⟩, fun i hi => absurd hi (by simp)⟩⟩
  · simp [Value.cells] at hcs
    obtain ⟨rfl, rfl, rfl⟩ := hcs
    simp only [if_true] at hmm
    have hm2 : cap ≤ 9223372036854775807 := by unfold maxLen at hm; omega
    have ct : Tryz.prog.cellsOf 30 = 5 := by kernel_rfl
    have each : ∀ i, i < m → ∃ z : A5, A5Ok W z ∧ ∀ j, j < 5 → W.cell? ((a.add (i * 5)).add j) = (a5cs z)[j]? := fun i hi => by
      obtain ⟨cs', h1, h2⟩ := hx i hi
      rw [ct] at h1
      obtain ⟨_, hlen, hcell⟩ := World.cells?_some h1
      obtain ⟨z, h3, h4⟩ := open_act17 (enc := enc) _ Tryz.underlying30 rfl (by kernel_rfl) (by kernel_rfl) (by kernel_rfl) (by kernel_rfl) (by kernel_rfl) (by kernel_rfl) Tryz.underlying3 Tryz.underlying3 Tryz.underlying3 Tryz.underlying4 159 180 Tryz.underlying28 Tryz.underlying159 Tryz.underlying180 (by kernel_rfl) (by kernel_rfl) h2
      refine ⟨z, h4, fun j hj => ?_⟩
      rw [← h3]
      exact hcell j (by omega)
    have inh : Inhabited A5 := ⟨noA5⟩
    obtain ⟨Z, hZ⟩ := Go.Deep.choose_lt each
    have hlen : ((List.range len).map Z).length = len := by simp
    have hat : ∀ i, i < len → ((List.range len).map Z).getD i noA5 = Z i := fun i hi => by simp [List.getD_eq_getElem?_getD, hi]
    refine ⟨(List.range len).map Z, ⟨⟨some a, cap, by rw [hlen], by rw [hlen]; exact hl, hm2, fun h0 => ?_⟩, fun i hi => ?_⟩⟩
    · rw [hlen] at h0
      obtain ⟨b, off, spot⟩ := a
      have h00 := (hZ 0 (by omega)).2 0 (by omega)
      have hspot : spot = none := by
        have : W.cell? ((Addr.add ⟨b, off, spot⟩ (0 * 5)).add 0) = some (.int .i64 (Z 0).op) := h00
        simpa [Addr.add] using World.cell?_spot this
      subst hspot
      refine ⟨b, off, rfl, fun i hi j u hu => ?_⟩
      rw [hlen] at hi
      rw [hat i hi] at hu
      have hj : j < 5 := by have := (List.getElem?_eq_some_iff.1 hu).1; simpa [a5cs] using this
      have h1 := (hZ i (by omega)).2 j hj
      rw [Addr.add_mid, Addr.add_mid, hu] at h1
      exact h1
    · rw [hlen] at hi
      rw [hat i hi]
      exact (hZ i (by omega)).1

end Go.Proofs.YtinpkfdmellleaaGreat

namespace Go.Proofs.YtinpkfdmellleaaGreat
open Go.RowKit Plain
set_option linter.unusedVariables false

theorem PX.kp {w0 w w' : World} {v x b r y : Nat} {T : List Nat} {K : KS} {sv mv : Value} (h : PX w0 w v x b r y T K sv mv) (k : Kp w w') : PX w0 w' v x b r y T K sv mv :=
  ⟨k.held h.c0, k.held h.c1, k.held h.c2, k.held h.c3, fun o => ((k.sp []).frozen (World.block_lt_of_cell? _ _ h.c0) (by simp) o).trans (h.fz o), h.kx.kp k, h.nv, h.lv, h.q⟩
theorem PX.sp {w0 w w' : World} {v x b r y : Nat} {T U : List Nat} {K : KS} {sv mv : Value} (h : PX w0 w v x b r y T K sv mv) (k : Sp U w w') (hU : ∀ t, t ∈ v :: x :: T → t ∉ U) (hq : ∀ q, (sv.ownBlock = some q ∨ mv.ownBlock = some q) → q ∉ U) : PX w0 w' v x b r y T K sv mv :=
  have hv := hU v List.mem_cons_self
  ⟨k.held h.c0 hv, k.held h.c1 hv, k.held h.c2 hv, k.held h.c3 hv, fun o => (k.frozen (World.block_lt_of_cell? _ _ h.c0) hv o).trans (h.fz o), h.kx.sp k (fun t ht => hU t (List.mem_cons_of_mem _ ht)) (fun q e => hq q (.inl e)) (fun q e => hq q (.inr e)), h.nv, h.lv, h.q⟩
theorem next_nil (w : World) : Calls Tryz.prog 31 #[.pointer none] w fun e w' => e = .returned (.tuple #[.int .i64 0, .int .i64 0, .bool false]) ∧ w' = w := by
  go_enter Tryz.func31, Tryz.ntmps31
  go_wp2
  go_ret3
  exact ⟨rfl, rfl⟩
theorem open_nil (w : World) : Calls Tryz.prog 21 #[.pointer none] w fun e w' => e = .returned (.tuple #[.pointer none, .int .i64 1]) ∧ w' = w := by
  go_enter Tryz.func21, Tryz.ntmps21
  go_wp2
  go_ret2
  exact ⟨rfl, rfl⟩
theorem find_nil (m : Int) (w : World) : Calls Tryz.prog 80 #[.pointer none, .int .i64 m] w fun e w' => e = .returned (.int .i64 1) ∧ w' = w := by
  go_enter Tryz.func80, Tryz.ntmps80
  go_wp2
  go_ret
  exact ⟨rfl, rfl⟩
theorem fail_nil (m : Int) (w : World) : Calls Tryz.prog 33 #[.pointer none, .int .i64 m] w fun e w' => e = .returned (.int .i64 1) ∧ w' = w := by
  have hF := find_nil m w
  go_enter Tryz.func33, Tryz.ntmps33
  go_wp2_with fail
  refine hF.mono ?_; rintro e v1 ⟨rfl, hv⟩
  subst v1
  go_wp2
  go_ret
  exact ⟨rfl, rfl⟩
theorem replace_nil (m : Int) (w : World) : Calls Tryz.prog 32 #[.pointer none, .int .i64 m] w fun e w' => e = .returned (.int .i64 1) ∧ w' = w := by
  have hF := find_nil m w
  go_enter Tryz.func32, Tryz.ntmps32
  go_wp2_with fail
  refine hF.mono ?_; rintro e v1 ⟨rfl, hv⟩
  subst v1
  go_wp2
  go_ret
  exact ⟨rfl, rfl⟩
theorem advance_nil (m t : Int) (w : World) : Calls Tryz.prog 30 #[.pointer none, .int .i64 m, .int .i64 t] w fun e w' => e = .returned (.int .i64 1) ∧ w' = w := by
  have hF := find_nil m w
  go_enter Tryz.func30, Tryz.ntmps30
  go_wp2_with fail
  refine hF.mono ?_; rintro e v1 ⟨rfl, hv⟩
  subst v1
  go_wp2
  go_ret
  exact ⟨rfl, rfl⟩
set_option maxRecDepth 100000 in
theorem label_nil (w : World) : Calls Tryz.prog 24 #[.pointer none] w fun e w' => e = .returned (lV 0 0 0 (.slice none 0 0) (.slice none 0 0)) ∧ Kp w w' := by
  have LA : Lc (w.alloc (.cells #[.int .i64 0, .int .i64 0, .int .i64 0, .slice none 0 0, .slice none 0 0] 63)) w.heap.size 0 0 0 (.slice none 0 0) (.slice none 0 0) := Lc.new w _ _ _ _ _ _
  have HL := hid LA
  obtain ⟨c0, c1, c2, c3, c4⟩ := LA
  go_enter Tryz.func24, Tryz.ntmps24
  go_wp2
  refine bodyPost_ret (results_lb rfl _ _ w.heap.size rfl HL.out) rfl ?_
  exact ⟨rfl, (Kp.refl w).alloc _⟩

end Go.Proofs.YtinpkfdmellleaaGreat
