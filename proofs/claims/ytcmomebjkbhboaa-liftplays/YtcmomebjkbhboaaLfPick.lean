/-
  Contract of Pick. Conditions: that the object lies in memory as LX says.
-/
import Derived.Test.YtcmomebjkbhboaaLfNext
namespace Go.Proofs.Ytcmomebjkbhboaa
open Go.RowKit Plain
set_option linter.unusedVariables false

/-- each waits for one more. -/
def incW (x : Wt) : Wt := ⟨x.k, x.n + 1⟩
def upL (l : List Wt) (i : Nat) : List Wt := (l.take i).map incW ++ l.drop i
theorem up_len (l : List Wt) (i : Nat) : (upL l i).length = l.length := by
  unfold upL
  rw [List.length_append, List.length_map, ← List.length_append, List.take_append_drop]
theorem up_zero (l : List Wt) : upL l 0 = l := by unfold upL; simp
theorem up_full (l : List Wt) : upL l l.length = l.map incW := by unfold upL; simp
theorem up_at {l : List Wt} {i : Nat} (h : i < l.length) : upL l i = (l.take i).map incW ++ l.getD i wz :: l.drop (i + 1) := by
  unfold upL
  rw [List.getD_eq_getElem?_getD, List.getElem?_eq_getElem h, Option.getD_some, ← List.drop_eq_getElem_cons h]
theorem up_next {l : List Wt} {i : Nat} (h : i < l.length) : upL l (i + 1) = (l.take i).map incW ++ incW (l.getD i wz) :: l.drop (i + 1) := by
  unfold upL
  rw [take_wt h, List.map_append]
  simp
theorem up_get {l : List Wt} {i : Nat} (h : i < l.length) : (upL l i).getD i wz = l.getD i wz := by
  have hl : ((l.take i).map incW).length = i := by rw [List.length_map, List.length_take]; omega
  rw [up_at h, List.getD_eq_getElem?_getD, List.getElem?_append_right (by omega), hl, Nat.sub_self]
  rfl
theorem LX.data {w0 w : World} {a : Nat} {T : List Nat} {S : LS} (h : LX w0 w a T S) {A B : List Wt} {y : Wt} (hL : S.L = A ++ y :: B) (d : Int) {g cap : Nat} (hg : w.cell? ⟨a, 0, none⟩ = some (.slice (some ⟨g, 0, none⟩) S.L.length cap)) : LX w0 (w.setCell ⟨g, A.length * 2 + 1, none⟩ (.int .i64 d)) a T ⟨A ++ ⟨y.k, d⟩ :: B, S.g, S.h⟩ ∧ Sp T w (w.setCell ⟨g, A.length * 2 + 1, none⟩ (.int .i64 d)) := by
  obtain ⟨v, rfl, h1, h2, h3, h4, h5⟩ := h
  have c0 := cell_of h1 0
  rw [hg] at c0
  obtain rfl : Value.slice (some ⟨g, 0, none⟩) S.L.length cap = v := by simpa using c0
  have hag : a ≠ g := fun e => h4 (by rw [e]; rfl)
  rcases h3.row with ⟨h, _⟩ | ⟨g', cap', cs, he, hb, R, hle, hcm, ht⟩
  · cases h
  · obtain ⟨rfl, rfl⟩ : g = g' ∧ cap = cap' := by simpa using he
    have hlen : (A ++ (⟨y.k, d⟩ : Wt) :: B).length = S.L.length := by rw [hL]; simp
    have k : Sp [g] w (w.setCell ⟨g, A.length * 2 + 1, none⟩ (.int .i64 d)) := (Sp.refl _ _).set g _ (by simp) _
    refine ⟨⟨_, rfl, (k.block a (heap_lt h1) (by simpa using hag)).trans h1, h2, ?_, h4, Nat.le_trans h5 k.size⟩, k.mono (fun t ht => by simp at ht; subst ht; simp [Value.ownBlock])⟩
    refine Ow.of (R.set _ _) hb (by show (A ++ (⟨y.k, d⟩ : Wt) :: B).length ≤ cap; rw [hlen]; exact hle) hcm ?_ _ hlen.symm
    show List.take ((A ++ (⟨y.k, d⟩ : Wt) :: B).length * 2) _ = wv (A ++ ⟨y.k, d⟩ :: B)
    rw [hlen, List.take_set, ht, hL, wv_app, wv_app, List.set_append_right _ _ (by rw [wv_len]; omega), wv_len, show A.length * 2 + 1 - A.length * 2 = 1 by omega]
    rfl
theorem LX.head {w0 w : World} {a : Nat} {T : List Nat} {S : LS} (h : LX w0 w a T S) (c : Int) : LX w0 (w.setCell ⟨a, 2, none⟩ (.int .i64 c)) a T ⟨S.L, S.g, c⟩ ∧ Sp T w (w.setCell ⟨a, 2, none⟩ (.int .i64 c)) := by
  obtain ⟨v, rfl, h1, h2, h3, h4, h5⟩ := h
  have k : Sp [a] w (w.setCell ⟨a, 2, none⟩ (.int .i64 c)) := (Sp.refl _ _).set a _ (by simp) _
  exact ⟨⟨v, rfl, heap_set h1 2 _, h2, h3.sp k (fun g hg e => h4 (by simp at e; rw [← e]; exact hg)), h4, Nat.le_trans h5 k.size⟩, k.mono (fun t ht => by simp at ht; subst ht; simp)⟩
theorem Ow.frozenB {w : World} {base g n cap : Nat} {e : TypeId} {l : List Wt} (h : Ow w base e (.slice (some ⟨g, 0, none⟩) n cap) l) (j : Nat) : w.frozen? ⟨g, j, none⟩ = false := by
  rcases h.row with ⟨h, _⟩ | ⟨g', cap', cs, he, _, R, _⟩
  · cases h
  · obtain ⟨rfl, _, _⟩ : g = g' ∧ n = l.length ∧ cap = cap' := by simpa using he
    exact R.frozen j
/-- what a lift that is used may be. -/
structure Lg (S : LS) (m : Int) : Prop where
  nd : Nd S.L
  len : S.L.length ≤ 256
  r : ∀ x ∈ S.L, 0 ≤ x.k ∧ x.k < 1099511627776
  n : ∀ x ∈ S.L, 0 ≤ x.n ∧ x.n ≤ m
  o : S.L.Pairwise (fun x y => y.n ≤ x.n)
  g1 : 1 ≤ S.g
  g2 : S.g ≤ 65536
theorem Lg.l {S : LS} {m : Int} (h : Lg S m) : S.L.length ≤ 1000 := by have := h.len; omega
theorem Lg.new (g : Int) : Lg ⟨[], gA g, 0⟩ 0 := ⟨List.Pairwise.nil, by simp, by simp, by simp, List.Pairwise.nil, (gA_pos g).1, (gA_pos g).2⟩
theorem Lg.mono {S : LS} {m m' : Int} (h : Lg S m) (hm : m ≤ m') : Lg S m' := ⟨h.nd, h.len, h.r, fun x hx => ⟨(h.n x hx).1, Int.le_trans (h.n x hx).2 hm⟩, h.o, h.g1, h.g2⟩
theorem Lg.add {S : LS} {m : Int} (h : Lg S m) (hm : 0 ≤ m) (b : Int) : Lg (adS S b) m := by
  by_cases e : adE S b = 0
  · rw [ad_ok e]
    obtain ⟨e1, e2, e3⟩ := ad_iff.1 e
    refine ⟨?_, by show (S.L ++ [_]).length ≤ 256; rw [List.length_append]; simp; omega, fun x hx => ?_, fun x hx => ?_, ?_, h.g1, h.g2⟩
    · show Nd (S.L ++ [⟨b, 0⟩])
      rw [Nd, List.pairwise_append]
      refine ⟨h.nd, List.pairwise_singleton _ _, fun x hx y hy => ?_⟩
      obtain rfl : y = (⟨b, 0⟩ : Wt) := by simpa using hy
      exact (hs_not _ _).1 e2 x hx
    · have hx : x ∈ S.L ++ [⟨b, 0⟩] := hx
      rcases List.mem_append.1 hx with hx | hx
      · exact h.r x hx
      · obtain rfl : x = (⟨b, 0⟩ : Wt) := by simpa using hx
        exact e1
    · have hx : x ∈ S.L ++ [⟨b, 0⟩] := hx
      rcases List.mem_append.1 hx with hx | hx
      · exact h.n x hx
      · obtain rfl : x = (⟨b, 0⟩ : Wt) := by simpa using hx
        exact ⟨Int.le_refl _, hm⟩
    · show (S.L ++ [(⟨b, 0⟩ : Wt)]).Pairwise _
      rw [List.pairwise_append]
      refine ⟨h.o, List.pairwise_singleton _ _, fun x hx y hy => ?_⟩
      obtain rfl : y = (⟨b, 0⟩ : Wt) := by simpa using hy
      exact (h.n x hx).1
  · rw [ad_no e]; exact h
theorem Lg.drop {S : LS} {m : Int} (h : Lg S m) (b : Int) : Lg ⟨dlL S.L b, S.g, S.h⟩ m :=
  ⟨List.Pairwise.filter _ h.nd, Nat.le_trans (List.length_filter_le _ _) h.len, fun x hx => h.r x (List.mem_filter.1 hx).1, fun x hx => h.n x (List.mem_filter.1 hx).1, List.Pairwise.filter _ h.o, h.g1, h.g2⟩
/-- what a Pick leaves. -/
def pkS (S : LS) (k : Int) : LS := ⟨(dlL S.L k).map incW, S.g, k + 1⟩
theorem Lg.pick {S : LS} {m : Int} (h : Lg S m) (k : Int) : Lg (pkS S k) (m + 1) := by
  have hd := h.drop k
  refine ⟨?_, ?_, fun x hx => ?_, fun x hx => ?_, ?_, h.g1, h.g2⟩
  · show ((dlL S.L k).map incW).Pairwise _
    rw [List.pairwise_map]
    exact hd.nd
  · show ((dlL S.L k).map incW).length ≤ 256
    rw [List.length_map]; exact hd.len
  · obtain ⟨y, hy, rfl⟩ := List.mem_map.1 hx
    exact hd.r y hy
  · obtain ⟨y, hy, rfl⟩ := List.mem_map.1 hx
    have := hd.n y hy
    show 0 ≤ y.n + 1 ∧ y.n + 1 ≤ m + 1
    omega
  · show ((dlL S.L k).map incW).Pairwise _
    rw [List.pairwise_map]
    exact hd.o.imp (fun {x y} h => by show y.n + 1 ≤ x.n + 1; omega)

set_option maxRecDepth 100000 in
theorem pick_none {w0 w : World} {a : Nat} {T : List Nat} {S : LS} (h : LX w0 w a T S) (h0 : S.L.length = 0) : Calls Try.prog 10 #[.pointer (some ⟨a, 0, none⟩)] w fun e w' => e = .returned (.tuple #[.int .i64 0, .bool false]) ∧ Kp w w' := by
  have hL := llen_any h (by omega)
  rw [h0] at hL
  clear h h0
  go_enter Try.func10, Try.ntmps10
  go_wp2_with fail
  refine hL.mono ?_; rintro e w1 ⟨rfl, k1⟩
  go_wp2
  go_ret2
  exact ⟨rfl, k1⟩
set_option maxRecDepth 100000 in
set_option maxHeartbeats 4000000 in
theorem pick_any {w0 w : World} {a : Nat} {T : List Nat} {S : LS} {m : Int} (h : LX w0 w a T S) (hg : Lg S m) (hm : m ≤ 1000000) (h0 : 0 < S.L.length) : Calls Try.prog 10 #[.pointer (some ⟨a, 0, none⟩)] w fun e w' => ∃ k, e = .returned (.tuple #[.int .i64 k, .bool true]) ∧ Nx S k ∧ Nz LX w0 w w' a T (pkS S k) := by
  have hL := llen_any h hg.l
  have HX := hid (And.intro h hg)
  obtain ⟨n0, hn0⟩ : ∃ n0, n0 = S.L.length := ⟨_, rfl⟩
  rw [← hn0] at hL h0
  have HN0 := hid hn0
  have hne : ((n0 : Int) == 0) = false := by simp; omega
  clear h hg hn0
  go_enter Try.func10, Try.ntmps10
  go_wp2_with fail
  refine hL.mono ?_; rintro e w1 ⟨rfl, k1⟩
  have hNx := next_any (HX.out.1.kept k1) HX.out.2.l (by rw [← HN0.out]; exact h0)
  have HK1 := hid k1
  clear hL k1
  go_wp2_with fail
  refine hNx.mono ?_; rintro e w2 ⟨k, rfl, hk, k2⟩
  have hD := drop_any (HX.out.1.kept (HK1.out.trans k2)) HX.out.2.l HX.out.2.nd k
  have HK := hid hk
  have HK2 := hid (HK1.out.trans k2)
  have hkr : 0 ≤ k ∧ k < 1099511627776 := by obtain ⟨x, hx, rfl⟩ := hk.1; exact HX.out.2.r x hx
  obtain ⟨hk0, hk1⟩ := hkr
  clear hNx hk k2 HK1 hne
  go_wp2_with fail
  refine hD.mono ?_; rintro e w3 ⟨rfl, T3, x3, s3, nw3⟩
  have hg3 := HX.out.2.drop k
  obtain ⟨l, hl⟩ : ∃ l, l = dlL S.L k := ⟨_, rfl⟩
  rw [← hl] at x3 hg3
  obtain ⟨q1, q2⟩ := x3.head (k + 1)
  obtain ⟨V, hV⟩ : ∃ V, V = w3.setCell ⟨a, 2, none⟩ (.int .i64 (k + 1)) := ⟨_, rfl⟩
  rw [← hV] at q1 q2
  obtain ⟨v, hT3, p1, p2, p3, p4, p5⟩ := x3
  obtain ⟨v', hT3', p1', p2', p3', p4', p5'⟩ := q1
  obtain ⟨pp, g, cap, hv', hp, hle, hcp, hc⟩ := p3'.cells
  have c2 : w3.cell? ⟨a, 2, none⟩ = some (.int .i64 S.h) := cell_of p1 2
  have f2 := frozen_of p1 2
  have c0 := cell_of p1' 0
  obtain ⟨n, hn⟩ : ∃ n, n = l.length := ⟨_, rfl⟩
  have hl' : ({ L := l, g := S.g, h := S.h } : LS).L.length = n := hn.symm
  have e0 : V.cell? ⟨a, 0, none⟩ = some (.slice pp n cap) := by rw [hn]; rw [hv'] at c0; exact c0
  have hle2 : n ≤ cap := by rw [hn]; exact hle
  have hn256 : n ≤ 256 := by rw [hn]; exact hg3.len
  have HR : Hid (LX w0 V a T3 ⟨upL l 0, S.g, k + 1⟩ ∧ Sp T3 w3 V) := ⟨by rw [up_zero]; exact ⟨v', hT3', p1', p2', p3', p4', p5'⟩, q2⟩
  have HG : Hid (Lg ⟨l, S.g, S.h⟩ m ∧ n = l.length ∧ l = dlL S.L k) := ⟨hg3, hn, hl⟩
  have HP : Hid ((0 < n → pp = some ⟨g, 0, none⟩) ∧ v'.ownBlock ≠ some a ∧ (0 < n → v'.ownBlock = some g) ∧ T3 = a :: v'.ownBlock.toList) := ⟨fun h => (hp (by rw [← hn]; exact h)).1, p4', fun h => (hp (by rw [← hn]; exact h)).2, hT3'⟩
  have H3 : Hid (Sp T w2 w3 ∧ Nw w2 T T3) := ⟨s3, nw3⟩
  have HV := hid hV
  have hw1 : IntKind.i64.wrap (k + 1) = k + 1 := by rw [IntKind.wrap_i64]; omega
  rw [hV] at e0
  clear hD s3 nw3 hl hV q2 hT3 p1 p2 p3 p4 p5 hT3' p1' p2' p3' p4' p5' hv' hp hle hc c0 hn hl' hg3
  go_wp2
  clear e0 c2 f2 hw1
  go_loopw [5, 24] (fun _ q wr => ∃ i : Nat, q = .int .i64 i ∧ i ≤ n ∧ Hid (LX w0 wr a T3 ⟨upL l i, S.g, k + 1⟩ ∧ Sp T3 w3 wr)) (fun _ q _ => n - (intOf q).toNat)
  case atStart => exact ⟨0, rfl, by omega, by rw [← HV.out]; exact HR⟩
  case round =>
    obtain ⟨i, rfl, hi, HQ⟩ := hrel
    by_cases hin : i < n
    · have hil : i < l.length := by have := HG.out.2.1; omega
      obtain ⟨x, s⟩ := HQ.out
      have x0 := x
      obtain ⟨v2, t1, t2, t3, t4, t5, t6⟩ := x0
      obtain ⟨p2, g2, cap2, rfl, r1, r2, r3, r4⟩ := t4.cells
      have hul := up_len l i
      obtain ⟨rfl, _⟩ := r1 (by show 0 < (upL l i).length; omega)
      have d1 := (r4 i (by show i < (upL l i).length; omega)).2
      have d0 := cell_of t2 0
      have f1 := Ow.frozenB t4 (i * 2 + 1)
      have hz := HG.out.1.n (l.getD i wz) (by rw [List.getD_eq_getElem?_getD, List.getElem?_eq_getElem hil]; exact List.getElem_mem hil)
      have hd1 : (upL l i).getD i wz = l.getD i wz := up_get hil
      have hD2 := LX.data (S := ⟨upL l i, S.g, k + 1⟩) x (A := (l.take i).map incW) (B := l.drop (i + 1)) (y := l.getD i wz) (up_at hil) ((l.getD i wz).n + 1) d0
      rw [show ((l.take i).map incW).length = i by rw [List.length_map, List.length_take]; omega] at hD2
      rw [show (l.take i).map incW ++ (⟨(l.getD i wz).k, (l.getD i wz).n + 1⟩ : Wt) :: l.drop (i + 1) = upL l (i + 1) from (up_next hil).symm] at hD2
      have d1' : wr.cell? ⟨g2, i * 2 + 1, none⟩ = some (.int .i64 (l.getD i wz).n) := by rw [← hd1]; exact d1
      have d0' : wr.cell? ⟨a, 0, none⟩ = some (.slice (some ⟨g2, 0, none⟩) n cap2) := by rw [HG.out.2.1, ← hul]; exact d0
      obtain ⟨y, hy⟩ : ∃ y, y = (l.getD i wz).n := ⟨_, rfl⟩
      rw [← hy] at d1' hz hD2
      have hH2 : Hid (LX w0 (wr.setCell ⟨g2, i * 2 + 1, none⟩ (.int .i64 (y + 1))) a T3 ⟨upL l (i + 1), S.g, k + 1⟩ ∧ Sp T3 w3 (wr.setCell ⟨g2, i * 2 + 1, none⟩ (.int .i64 (y + 1)))) := ⟨hD2.1, s.trans hD2.2⟩
      have hw2 : IntKind.i64.wrap (y + 1) = y + 1 := by rw [IntKind.wrap_i64]; omega
      have hin3 : (i : Int) < (n : Int) := by omega
      have hc2 : n ≤ cap2 := by have := r2; have h3 : ({ L := upL l i, g := S.g, h := k + 1 } : LS).L.length = l.length := hul; have := HG.out.2.1; omega
      clear x s t1 t2 t3 t4 t5 t6 r1 r2 r4 hul d1 d0 hd1 hD2 hy HQ hz
      go_wp2
      go_roundw
      case rel => exact ⟨i + 1, by go_num, by omega, hH2⟩
      case measure => simp [intOf]; omega
    · obtain rfl : i = n := by omega
      go_wp2
      go_ret2
      obtain ⟨x, s⟩ := HQ.out
      obtain ⟨g1, g2, g3⟩ := HG.out
      rw [g2, up_full, g3] at x
      exact ⟨k, rfl, HK.out, T3, x, (HK2.out.sp _).trans (H3.out.1.then s H3.out.2), (Nw.refl w T).trans H3.out.2 HK2.out.size⟩

end Go.Proofs.Ytcmomebjkbhboaa
