/-
  Contracts of Add, Waited and Drop. Conditions: that the object lies in memory as LX says.
-/
import Derived.Test.YtcmomebjkbhboaaLfObj
namespace Go.Proofs.Ytcmomebjkbhboaa
open Go.RowKit Plain
set_option linter.unusedVariables false

/-- does the key wait? -/
def hsW (l : List Wt) (b : Int) : Bool := l.any (fun x => decide (x.k = b))
theorem hs_iff (l : List Wt) (b : Int) : hsW l b = true ↔ ∃ x ∈ l, x.k = b := by
  unfold hsW
  rw [List.any_eq_true]
  simp
theorem hs_not (l : List Wt) (b : Int) : hsW l b = false ↔ ∀ x ∈ l, x.k ≠ b := by
  unfold hsW
  rw [List.any_eq_false]
  simp
theorem fi_hs {l : List Wt} {b z : Int} (h : Fi l b z) : (z < 0 ∧ z = -1 ∧ hsW l b = false) ∨ (0 ≤ z ∧ hsW l b = true) := by
  rcases h with ⟨rfl, h⟩ | ⟨A, y, B, rfl, rfl, hy, _⟩
  · exact .inl ⟨by omega, rfl, (hs_not _ _).2 h⟩
  · exact .inr ⟨by omega, (hs_iff _ _).2 ⟨y, by simp, hy⟩⟩
theorem fi_dec {l : List Wt} {b z : Int} (h : Fi l b z) : decide (0 ≤ z) = hsW l b := by
  rcases fi_hs h with ⟨h1, _, h2⟩ | ⟨h1, h2⟩
  · rw [h2]; exact decide_eq_false (by omega)
  · rw [h2]; exact decide_eq_true h1
/-- what Add answers, and makes. -/
def adE (S : LS) (b : Int) : Int := if b < 0 ∨ 1099511627776 ≤ b then 3 else if hsW S.L b = true then 11 else if 256 ≤ S.L.length then 10 else 0
def adS (S : LS) (b : Int) : LS := if adE S b = 0 then ⟨S.L ++ [⟨b, 0⟩], S.g, S.h⟩ else S
theorem ad_ok {S : LS} {b : Int} (e : adE S b = 0) : adS S b = ⟨S.L ++ [⟨b, 0⟩], S.g, S.h⟩ := by unfold adS; rw [if_pos e]
theorem ad_no {S : LS} {b : Int} (e : adE S b ≠ 0) : adS S b = S := by unfold adS; rw [if_neg e]
theorem ad_iff {S : LS} {b : Int} : adE S b = 0 ↔ (0 ≤ b ∧ b < 1099511627776) ∧ hsW S.L b = false ∧ S.L.length < 256 := by
  unfold adE
  constructor
  · intro h
    split at h
    · cases h
    · split at h
      · cases h
      · split at h
        · cases h
        · rename_i h1 h2 h3
          exact ⟨by omega, by simpa using h2, by omega⟩
  · rintro ⟨h1, h2, h3⟩
    rw [if_neg (by omega), if_neg (by rw [h2]; decide), if_neg (by omega)]
/-- another row laid into the object. -/
theorem LX.items {w0 w w2 : World} {a : Nat} {v v' : Value} {S : LS} {l : List Wt} (h1 : w.heap[a]? = some (.cells #[v, .int .i64 S.g, .int .i64 S.h] 49 (0, 0))) (h2 : w0.heap.size ≤ a) (h4 : v.ownBlock ≠ some a) (h5 : w0.heap.size ≤ w.heap.size)
    (k : Sp v.ownBlock.toList w w2) (ho : Ow w2 w0.heap.size 53 v' l) (hv : v'.ownBlock = v.ownBlock ∨ (∀ N, v'.ownBlock = some N → w.heap.size ≤ N)) :
    LX w0 (w2.setCell ⟨a, 0, none⟩ v') a (a :: v'.ownBlock.toList) ⟨l, S.g, S.h⟩ ∧ Sp (a :: v.ownBlock.toList) w (w2.setCell ⟨a, 0, none⟩ v') ∧ Nw w (a :: v.ownBlock.toList) (a :: v'.ownBlock.toList) := by
  have ha := heap_lt h1
  have h1' : w2.heap[a]? = some (.cells #[v, .int .i64 S.g, .int .i64 S.h] 49 (0, 0)) := (k.block a ha (fun e => h4 (by simpa using e))).trans h1
  have hv' : v'.ownBlock ≠ some a := by
    rcases hv with hv | hv
    · rw [hv]; exact h4
    · intro e; have := hv a e; omega
  have k2 : Sp [a] w2 (w2.setCell ⟨a, 0, none⟩ v') := (Sp.refl _ _).set a _ (by simp) _
  refine ⟨⟨v', rfl, heap_set h1' 0 _, h2, ho.sp k2 (fun g hg e => hv' (by simp at e; rw [← e]; exact hg)), hv', Nat.le_trans h5 (Nat.le_trans k.size k2.size)⟩, ?_, ?_⟩
  · exact (k.mono (fun t ht => List.mem_cons_of_mem _ ht)).trans (k2.mono (fun t ht => by simp at ht; subst ht; simp))
  · intro t ht
    rcases List.mem_cons.1 ht with rfl | ht
    · exact .inl (by simp)
    · rcases hv with hv | hv
      · rw [hv] at ht; exact .inl (List.mem_cons_of_mem _ ht)
      · exact .inr (hv t (by simpa using ht))
theorem Ow.slc {w : World} {base : Nat} {e : TypeId} {v : Value} {l : List Wt} (h : Ow w base e v l) : ∃ p n c, v = .slice p n c := by
  rcases h.row with ⟨rfl, _⟩ | ⟨g, cap, cs, rfl, _⟩ <;> exact ⟨_, _, _, rfl⟩

set_option maxRecDepth 100000 in
theorem add_out (a : Nat) (b : Int) (w : World) (hb : b < 0 ∨ 1099511627776 ≤ b) : Calls Try.prog 14 #[.pointer (some ⟨a, 0, none⟩), .int .i64 b] w fun e w' => e = .returned (.int .i64 3) ∧ Kp w w' := by
  rcases hb with hb | hb
  · have h1 : decide (b < 0) = true := by simp [hb]
    go_enter Try.func14, Try.ntmps14
    go_wp2
    go_ret
    exact ⟨rfl, Kp.refl w⟩
  · have h1 : decide (b < 0) = false := by simp; omega
    have h2 : decide (1099511627776 ≤ b) = true := by simp [hb]
    go_enter Try.func14, Try.ntmps14
    go_wp2
    go_ret
    exact ⟨rfl, Kp.refl w⟩
set_option maxRecDepth 100000 in
set_option maxHeartbeats 2000000 in
theorem add_hit {w0 w : World} {a : Nat} {T : List Nat} {S : LS} (h : LX w0 w a T S) (hl : S.L.length ≤ 1000) (b : Int) (hb : ¬ (b < 0 ∨ 1099511627776 ≤ b)) (hh : hsW S.L b = true) : Calls Try.prog 14 #[.pointer (some ⟨a, 0, none⟩), .int .i64 b] w fun e w' => e = .returned (.int .i64 11) ∧ Kp w w' := by
  have h1 : decide (b < 0) = false := by simp; omega
  have h2 : decide (1099511627776 ≤ b) = false := by simp; omega
  have hF := find_any h hl b
  have HH := hid hh
  clear h hh
  go_enter Try.func14, Try.ntmps14
  go_wp2_with fail
  refine hF.mono ?_; rintro e w1 ⟨z, rfl, hz, k1⟩
  rw [fi_dec hz, HH.out]
  clear hz
  go_wp2
  go_ret
  exact ⟨rfl, k1⟩
set_option maxRecDepth 100000 in
set_option maxHeartbeats 2000000 in
theorem add_full {w0 w : World} {a : Nat} {T : List Nat} {S : LS} (h : LX w0 w a T S) (hl : S.L.length ≤ 1000) (b : Int) (hb : ¬ (b < 0 ∨ 1099511627776 ≤ b)) (hh : hsW S.L b = false) (hf : 256 ≤ S.L.length) : Calls Try.prog 14 #[.pointer (some ⟨a, 0, none⟩), .int .i64 b] w fun e w' => e = .returned (.int .i64 10) ∧ Kp w w' := by
  have h1 : decide (b < 0) = false := by simp; omega
  have h2 : decide (1099511627776 ≤ b) = false := by simp; omega
  have hF := find_any h hl b
  have HH := hid hh
  obtain ⟨v, rfl, q1, q2, q3, q4, q5⟩ := h
  obtain ⟨p, g, cap, rfl, hp, hle, hcp, hc⟩ := q3.cells
  have c0 := cell_of q1 0
  obtain ⟨n, hn⟩ : ∃ n, n = S.L.length := ⟨_, rfl⟩
  have c1 : w.cell? ⟨a, 0, none⟩ = some (.slice p n cap) := by rw [hn]; exact c0
  rw [← hn] at hf hl
  have hf2 : decide ((256 : Int) ≤ (n : Int)) = true := by simp; omega
  clear q1 q2 q3 q4 q5 hh hn hp hc c0 hle
  go_enter Try.func14, Try.ntmps14
  go_wp2_with fail
  refine hF.mono ?_; rintro e w1 ⟨z, rfl, hz, k1⟩
  rw [fi_dec hz, HH.out]
  have c1 := k1.held c1
  clear hz hF
  go_wp2
  go_ret
  exact ⟨rfl, k1⟩
set_option maxRecDepth 100000 in
set_option maxHeartbeats 4000000 in
theorem add_new {w0 w : World} {a : Nat} {T : List Nat} {S : LS} (h : LX w0 w a T S) (hl : S.L.length ≤ 1000) (b : Int) (hb : ¬ (b < 0 ∨ 1099511627776 ≤ b)) (hh : hsW S.L b = false) (hf : S.L.length < 256) : Calls Try.prog 14 #[.pointer (some ⟨a, 0, none⟩), .int .i64 b] w fun e w' => e = .returned (.int .i64 0) ∧ Nz LX w0 w w' a T ⟨S.L ++ [⟨b, 0⟩], S.g, S.h⟩ := by
  have h1 : decide (b < 0) = false := by simp; omega
  have h2 : decide (1099511627776 ≤ b) = false := by simp; omega
  have hF := find_any h hl b
  have HH := hid hh
  have HX := hid h
  clear h hh
  go_enter Try.func14, Try.ntmps14
  go_wp2_with fail
  refine hF.mono ?_; rintro e w1 ⟨z, rfl, hz, k1⟩
  rw [fi_dec hz, HH.out]
  clear hz hF
  obtain ⟨v, hT, q1, q2, q3, q4, q5⟩ := HX.out.kept k1
  obtain ⟨p, g, cap, hv, hp, hle, hcp, hc⟩ := q3.cells
  have c0 := cell_of q1 0
  have f0 := frozen_of q1 0
  have HQ : Hid (T = a :: v.ownBlock.toList ∧ w1.heap[a]? = some (.cells #[v, .int .i64 S.g, .int .i64 S.h] 49 (0, 0)) ∧ w0.heap.size ≤ a ∧ Ow w1 w0.heap.size 53 v S.L ∧ v.ownBlock ≠ some a ∧ w0.heap.size ≤ w1.heap.size ∧ v = .slice p S.L.length cap) := ⟨hT, q1, q2, q3, q4, q5, hv⟩
  obtain ⟨n, hn⟩ : ∃ n, n = S.L.length := ⟨_, rfl⟩
  have c1 : w1.cell? ⟨a, 0, none⟩ = some (.slice p n cap) := by rw [hn, ← hv]; exact c0
  have HN := hid hn
  rw [← hn] at hf hl hle
  have hf2 : decide ((256 : Int) ≤ (n : Int)) = false := by simp; omega
  clear q1 q2 q3 q4 q5 hn hp hc c0 hT hv
  go_wp2_with (at_builtin; refine wpList_append_wt rfl _ _ 47 rfl w0.heap.size 53 elwQ _ S.L (by rw [HN.out]; exact HQ.out.2.2.2.2.2.2.symm) (HQ.out.2.2.2.1.kept ((Kp.refl _).alloc _)) _ [⟨b, 0⟩] rfl (WtIn.lit1 w1 ⟨b, 0⟩ _ _ rfl) ?c1 ?c2 ?_; rotate_left; rotate_left; intro v' w2 ho2 hg2 hr2; obtain ⟨p', n', c', rfl⟩ := ho2.slc; have hs2 := grown_sp hg2; have hh0 := (((Kp.refl w1).alloc (.cells #[.int .i64 b, .int .i64 0] 53)).block a (heap_lt HQ.out.2.1)).trans HQ.out.2.1; have hh2 := (hs2.block a (heap_lt hh0) (fun e => HQ.out.2.2.2.2.1 (by simpa using e))).trans hh0; have d0 := cell_of hh2 0; have d1 := frozen_of hh2 0)
  case c1 => have : S.L.length = n := HN.out.symm; simp; omega
  case c2 => have := HQ.out.2.2.2.2.2.1; simp; omega
  go_ret
  refine ⟨rfl, ?_⟩
  obtain ⟨s1, s2, s3, s4, s5, s6, s7⟩ := HQ.out
  obtain ⟨i1, i2, i3⟩ := LX.items (S := S) hh0 s3 s5 (by simp; omega) hs2 ho2 (hr2.elim .inl (fun h => .inr (fun N hN => by rw [h] at hN; cases hN; simp)))
  rw [← s1] at i2 i3
  have kk := k1.trans ((Kp.refl w1).alloc (.cells #[.int .i64 b, .int .i64 0] 53))
  exact ⟨_, i1, (kk.sp _).trans i2, (Nw.refl w T).trans i3 kk.size⟩
theorem add_any {w0 w : World} {a : Nat} {T : List Nat} {S : LS} (h : LX w0 w a T S) (hl : S.L.length ≤ 1000) (b : Int) : Calls Try.prog 14 #[.pointer (some ⟨a, 0, none⟩), .int .i64 b] w fun e w' => e = .returned (.int .i64 (adE S b)) ∧ Nz LX w0 w w' a T (adS S b) := by
  by_cases hb : b < 0 ∨ 1099511627776 ≤ b
  · have he : adE S b = 3 := by unfold adE; rw [if_pos hb]
    refine (add_out a b w hb).mono ?_
    rintro e w' ⟨rfl, k⟩
    exact ⟨by rw [he], by rw [ad_no (by rw [he]; decide)]; exact Nz.of OL.lx h k⟩
  · cases hh : hsW S.L b with
    | true =>
      have he : adE S b = 11 := by unfold adE; rw [if_neg hb, if_pos hh]
      refine (add_hit h hl b hb hh).mono ?_
      rintro e w' ⟨rfl, k⟩
      exact ⟨by rw [he], by rw [ad_no (by rw [he]; decide)]; exact Nz.of OL.lx h k⟩
    | false =>
      by_cases hf : 256 ≤ S.L.length
      · have he : adE S b = 10 := by unfold adE; rw [if_neg hb, if_neg (by rw [hh]; decide), if_pos hf]
        refine (add_full h hl b hb hh hf).mono ?_
        rintro e w' ⟨rfl, k⟩
        exact ⟨by rw [he], by rw [ad_no (by rw [he]; decide)]; exact Nz.of OL.lx h k⟩
      · have he : adE S b = 0 := by unfold adE; rw [if_neg hb, if_neg (by rw [hh]; decide), if_neg hf]
        refine (add_new h hl b hb hh (by omega)).mono ?_
        rintro e w' ⟨rfl, k⟩
        exact ⟨by rw [he], by rw [ad_ok he]; exact k⟩

/-! ### Waited -/
/-- how long the key waits. -/
def wtN (l : List Wt) (b : Int) : Int := ((l.find? (fun x => decide (x.k = b))).map Wt.n).getD 0
theorem wt_hit {A B : List Wt} {y : Wt} {b : Int} (hA : ∀ x ∈ A, x.k ≠ b) (hy : y.k = b) : wtN (A ++ y :: B) b = y.n := by
  unfold wtN
  rw [List.find?_append, List.find?_eq_none.2 (fun x hx => by simpa using hA x hx), List.find?_cons]
  simp [hy]
theorem wt_miss {l : List Wt} {b : Int} (h : ∀ x ∈ l, x.k ≠ b) : wtN l b = 0 := by
  unfold wtN
  rw [List.find?_eq_none.2 (fun x hx => by simpa using h x hx)]
  rfl
set_option maxRecDepth 100000 in
set_option maxHeartbeats 2000000 in
theorem waited_any {w0 w : World} {a : Nat} {T : List Nat} {S : LS} (h : LX w0 w a T S) (hl : S.L.length ≤ 1000) (b : Int) : Calls Try.prog 16 #[.pointer (some ⟨a, 0, none⟩), .int .i64 b] w fun e w' => e = .returned (.tuple #[.int .i64 (wtN S.L b), .bool (hsW S.L b)]) ∧ Kp w w' := by
  have hF := find_any h hl b
  have HX := hid h
  clear h
  go_enter Try.func16, Try.ntmps16
  go_wp2_with fail
  refine hF.mono ?_; rintro e w1 ⟨z, rfl, hz, k1⟩
  rw [fi_dec hz]
  rcases hz with ⟨rfl, hno⟩ | ⟨A, y, B, e1, rfl, hy, hA⟩
  · have HR : Hid (wtN S.L b = 0 ∧ hsW S.L b = false) := ⟨wt_miss hno, (hs_not _ _).2 hno⟩
    rw [HR.out.2]
    clear hF hno
    go_wp2
    go_ret2
    exact ⟨by rw [HR.out.1, HR.out.2]; rfl, k1⟩
  · have hil : A.length < S.L.length := by rw [e1]; simp
    have hat : S.L.getD A.length wz = y := by rw [e1]; simp [List.getD_eq_getElem?_getD]
    obtain ⟨v, hT, q1, q2, q3, q4, q5⟩ := HX.out.kept k1
    obtain ⟨p, g, cap, rfl, hp, hle, hcp, hc⟩ := q3.cells
    obtain ⟨rfl, _⟩ := hp (by omega)
    have d1 := (hc A.length hil).2
    rw [hat] at d1
    have c0 := cell_of q1 0
    have HR : Hid (wtN S.L b = y.n ∧ hsW S.L b = true) := ⟨by rw [e1]; exact wt_hit hA hy, (hs_iff _ _).2 ⟨y, by rw [e1]; simp, hy⟩⟩
    rw [HR.out.2]
    obtain ⟨n, hn⟩ : ∃ n, n = S.L.length := ⟨_, rfl⟩
    have c1 : w1.cell? ⟨a, 0, none⟩ = some (.slice (some ⟨g, 0, none⟩) n cap) := by rw [hn]; exact c0
    rw [← hn] at hil hle
    obtain ⟨i, hi⟩ : ∃ i, i = A.length := ⟨_, rfl⟩
    rw [← hi] at hil d1 ⊢
    have hi2 : (i : Int) < (n : Int) := by omega
    clear hF q1 q2 q3 q4 q5 hT hc hp hn hi e1 hA hat hy c0
    go_wp2
    go_ret2
    exact ⟨by rw [HR.out.1, HR.out.2]; rfl, k1⟩

/-! ### Drop -/
def dlL (l : List Wt) (b : Int) : List Wt := l.filter (fun x => decide (x.k ≠ b))
/-- each key waits once. -/
def Nd (l : List Wt) : Prop := l.Pairwise (fun x y => x.k ≠ y.k)
theorem dl_miss {l : List Wt} {b : Int} (h : ∀ x ∈ l, x.k ≠ b) : dlL l b = l := by
  unfold dlL
  exact List.filter_eq_self.2 (fun x hx => by simpa using h x hx)
theorem dl_hit {A B : List Wt} {y : Wt} {b : Int} (hn : Nd (A ++ y :: B)) (hy : y.k = b) : dlL (A ++ y :: B) b = A ++ B := by
  rw [Nd, List.pairwise_append, List.pairwise_cons] at hn
  have hA : ∀ x ∈ A, x.k ≠ b := fun x hx => by have := hn.2.2 x hx y (by simp); rw [hy] at this; exact this
  have hB : ∀ x ∈ B, x.k ≠ b := fun x hx => by have := hn.2.1.1 x hx; rw [hy] at this; exact fun e => this e.symm
  have h1 := dl_miss hA
  have h2 := dl_miss hB
  unfold dlL at h1 h2 ⊢
  rw [List.filter_append, List.filter_cons, h1, h2, if_neg (by simp [hy])]
set_option maxRecDepth 100000 in
set_option maxHeartbeats 4000000 in
theorem drop_any {w0 w : World} {a : Nat} {T : List Nat} {S : LS} (h : LX w0 w a T S) (hl : S.L.length ≤ 1000) (hnd : Nd S.L) (b : Int) : Calls Try.prog 12 #[.pointer (some ⟨a, 0, none⟩), .int .i64 b] w fun e w' => e = .returned (.bool (hsW S.L b)) ∧ Nz LX w0 w w' a T ⟨dlL S.L b, S.g, S.h⟩ := by
  have hF := find_any h hl b
  have HX := hid (And.intro h hnd)
  clear h hnd
  go_enter Try.func12, Try.ntmps12
  go_wp2_with fail
  refine hF.mono ?_; rintro e w1 ⟨z, rfl, hz, k1⟩
  rw [fi_dec hz]
  rcases hz with ⟨rfl, hno⟩ | ⟨A, y, B, e1, rfl, hy, hA⟩
  · have HR : Hid (dlL S.L b = S.L ∧ hsW S.L b = false) := ⟨dl_miss hno, (hs_not _ _).2 hno⟩
    rw [HR.out.2]
    clear hF hno
    go_wp2
    go_ret
    exact ⟨by rw [HR.out.2]; rfl, by rw [HR.out.1]; exact Nz.of OL.lx HX.out.1 k1⟩
  · have hil : A.length < S.L.length := by rw [e1]; simp
    obtain ⟨v, hT, q1, q2, q3, q4, q5⟩ := HX.out.1.kept k1
    have hD := delete_any w0.heap.size v S.L A.length w1 q3 hil
    have hdl : del S.L A.length = dlL S.L b := by
      have hnd := HX.out.2
      rw [e1] at hnd ⊢
      rw [dl_hit hnd hy]
      unfold del
      rw [List.take_left, show A.length + 1 = (A ++ [y]).length by simp, show A ++ y :: B = (A ++ [y]) ++ B by simp, List.drop_left]
    rw [hdl] at hD
    have hhs : hsW S.L b = true := (hs_iff _ _).2 ⟨y, by rw [e1]; simp, hy⟩
    rw [hhs]
    have HHS := hid hhs
    obtain ⟨p, g, cap, hv, hp, hle, hcp, hc⟩ := q3.cells
    have c0 := cell_of q1 0
    obtain ⟨n, hn⟩ : ∃ n, n = S.L.length := ⟨_, rfl⟩
    have c1 : w1.cell? ⟨a, 0, none⟩ = some (.slice p n cap) := by rw [hn, ← hv]; exact c0
    have HQ : Hid (T = a :: v.ownBlock.toList ∧ w1.heap[a]? = some (.cells #[v, .int .i64 S.g, .int .i64 S.h] 49 (0, 0)) ∧ w0.heap.size ≤ a ∧ v.ownBlock ≠ some a ∧ w0.heap.size ≤ w1.heap.size) := ⟨hT, q1, q2, q4, q5⟩
    have hvn : v = .slice p n cap := by rw [hn]; exact hv
    rw [hvn] at hD
    have HD : Hid (v = .slice p n cap) := hvn
    rw [← hn] at hil hle
    obtain ⟨i, hi⟩ : ∃ i, i = A.length := ⟨_, rfl⟩
    rw [← hi] at hil hD ⊢
    have hi3 : IntKind.i64.wrap ((i : Int) + 1) = (i : Int) + 1 := by rw [IntKind.wrap_i64]; omega
    clear hF q1 q2 q3 q4 q5 hT hc hp hn hi e1 hA hy c0 hv hvn hdl hhs
    go_wp2_with fail
    refine hD.mono ?_; rintro e w2 ⟨v', rfl, ho, hs, hv'⟩
    obtain ⟨p', n', c', rfl⟩ := ho.slc
    rw [← HD.out] at hs hv'
    obtain ⟨s1, s2, s3, s4, s5⟩ := HQ.out
    have hh2 := (hs.block a (heap_lt s2) (fun e => s4 (by simpa using e))).trans s2
    have d0 := cell_of hh2 0
    have d1 := frozen_of hh2 0
    have hI := LX.items (S := S) s2 s3 s4 s5 hs ho (.inl hv')
    rw [← s1] at hI
    have HI := hid hI
    rw [HD.out] at d0
    have d2 : w2.cell? ⟨a, 0, none⟩ = some (.slice p n cap) := d0
    clear hD hs ho hv' s1 s2 s3 s4 s5 hh2 hI HQ d0
    go_wp2
    go_ret
    obtain ⟨i1, i2, i3⟩ := HI.out
    exact ⟨by rw [HHS.out]; rfl, _, i1, (k1.sp _).trans i2, (Nw.refl w T).trans i3 k1.size⟩

end Go.Proofs.Ytcmomebjkbhboaa
