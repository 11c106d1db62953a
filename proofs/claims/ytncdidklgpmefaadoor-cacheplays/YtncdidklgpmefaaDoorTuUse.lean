/-
  A turn in use (Tu): the object, as turns come, blocks that lie beside it; its calls as they are used by the laws; a nil turn's calls; the laws' equal. No condition but those of Tu.
-/
import Derived.Test.YtncdidklgpmefaaDoorTuVic
namespace Go.Proofs.YtncdidklgpmefaaDoor
open Go.RowKit Plain
set_option linter.unusedVariables false

def Tu (w0 w : World) (a : Nat) (S : TS) (X : List Nat) : Prop := ∃ T, TX w0 w a T S ∧ Gd S ∧ Kp w0 w ∧ ∀ x ∈ X, x ∉ T ∧ x < w.heap.size
def Lk (X : List Nat) (w w' : World) : Prop := ∀ x ∈ X, w'.heap[x]? = w.heap[x]?
theorem Lk.refl (X : List Nat) (w : World) : Lk X w w := fun _ _ => rfl
theorem Lk.trans {X : List Nat} {a b c : World} (h : Lk X a b) (k : Lk X b c) : Lk X a c := fun x hx => (k x hx).trans (h x hx)
theorem Lk.at {X : List Nat} {w w' : World} (h : Lk X w w') {b : Nat} (hb : b ∈ X) {o : Obj} (e : w.heap[b]? = some o) : w'.heap[b]? = some o := (h b hb).trans e
theorem Lk.own {X : List Nat} {w w' : World} (h : Lk X w w') {base : Nat} {v : Value} {l : List Int} (ho : OwnI w base v l) (hX : ∀ g, v.ownBlock = some g → g ∈ X) : OwnI w' base v l := by
  rcases ho.2 with ⟨h', h0⟩ | ⟨g, cap, cur, h', hb, hg, hr⟩
  · exact ⟨ho.1, .inl ⟨h', h0⟩⟩
  · exact ⟨ho.1, .inr ⟨g, cap, cur, h', hb, (h g (hX g (by rw [h']; rfl))).trans hg, hr⟩⟩
section
variable {w0 w w' : World} {a : Nat} {S S' : TS} {X : List Nat}
theorem Tu.g (h : Tu w0 w a S X) : Gd S := by obtain ⟨_, _, h, _⟩ := h; exact h
theorem Tu.k (h : Tu w0 w a S X) : Kp w0 w := by obtain ⟨_, _, _, h, _⟩ := h; exact h
theorem Tu.kp (h : Tu w0 w a S X) (k : Kp w w') : Tu w0 w' a S X ∧ Lk X w w' := by
  obtain ⟨T, h1, h2, h3, h5⟩ := h
  exact ⟨⟨T, h1.kept k, h2, h3.trans k, fun x hx => ⟨(h5 x hx).1, Nat.lt_of_lt_of_le (h5 x hx).2 k.size⟩⟩, fun x hx => k.block x (h5 x hx).2⟩
/-- blocks beside it turned, and others laid beside it. -/
theorem Tu.mv (h : Tu w0 w a S X) {T' X' : List Nat} (k : Sp T' w w') (hT : ∀ t ∈ T', t ∈ X ∧ w0.heap.size ≤ t) (hX : ∀ x ∈ X', (x ∈ X ∨ w.heap.size ≤ x) ∧ x < w'.heap.size) : Tu w0 w' a S X' := by
  obtain ⟨T, h1, h2, h3, h5⟩ := h
  refine ⟨T, OL.tx.sp h1 k (fun t ht ht' => (h5 t (hT t ht').1).1 ht), h2, Sp.kp h3 k (fun t ht => (hT t ht).2), fun x hx => ⟨fun ht => ?_, (hX x hx).2⟩⟩
  rcases (hX x hx).1 with hx' | hx'
  · exact (h5 x hx').1 ht
  · have := OL.tx.low h1 x ht; omega
theorem Tu.sp (h : Tu w0 w a S X) {T' : List Nat} (k : Sp T' w w') (hT : ∀ t ∈ T', t ∈ X ∧ w0.heap.size ≤ t) : Tu w0 w' a S X := by
  have h5 : ∀ x ∈ X, x < w.heap.size := by obtain ⟨_, _, _, _, h⟩ := h; exact fun x hx => (h x hx).2
  exact h.mv k hT (fun x hx => ⟨.inl hx, Nat.lt_of_lt_of_le (h5 x hx) k.size⟩)
/-- fewer blocks beside it. -/
theorem Tu.less (h : Tu w0 w a S X) {X' : List Nat} (hX : ∀ x ∈ X', x ∈ X) : Tu w0 w a S X' := by
  obtain ⟨T, h1, h2, h3, h5⟩ := h
  exact ⟨T, h1, h2, h3, fun x hx => h5 x (hX x hx)⟩
/-- a new block beside it. -/
theorem Tu.more (h : Tu w0 w a S X) (k : Kp w w') {M : Nat} (h1 : w.heap.size ≤ M) (h2 : M < w'.heap.size) : Tu w0 w' a S (M :: X) := by
  have h5 : ∀ x ∈ X, x < w.heap.size := by obtain ⟨_, _, _, _, h⟩ := h; exact fun x hx => (h x hx).2
  refine h.mv (k.sp []) (fun t ht => by cases ht) (fun x hx => ?_)
  rcases List.mem_cons.1 hx with rfl | hx
  · exact ⟨.inr h1, h2⟩
  · exact ⟨.inl hx, Nat.lt_of_lt_of_le (h5 x hx) k.size⟩
/-- a new list beside it. -/
theorem Tu.list (h : Tu w0 w a S X) (k : Kp w w') {v : Value} {l : List Int} (ho : OwnI w' w.heap.size v l) : Tu w0 w' a S (X ++ v.ownBlock.toList) := by
  have h5 : ∀ x ∈ X, x < w.heap.size := by obtain ⟨_, _, _, _, h⟩ := h; exact fun x hx => (h x hx).2
  refine h.mv (k.sp []) (fun t ht => by cases ht) (fun x hx => ?_)
  rcases List.mem_append.1 hx with hx | hx
  · exact ⟨.inl hx, Nat.lt_of_lt_of_le (h5 x hx) k.size⟩
  · have := ho.lt x (by simpa using hx)
    exact ⟨.inr this.1, this.2⟩
theorem Tu.nz (h : Tu w0 w a S X) (hm : Gd S') (z : ∀ T, TX w0 w a T S → Nz TX w0 w w' a T S') : Tu w0 w' a S' X ∧ Lk X w w' := by
  obtain ⟨T, h1, h2, h3, h5⟩ := h
  obtain ⟨T', q1, q2, q3⟩ := z T h1
  refine ⟨⟨T', q1, hm, Sp.kp h3 q2 (OL.tx.new h1), fun x hx => ⟨fun ht => ?_, Nat.lt_of_lt_of_le (h5 x hx).2 q2.size⟩⟩, fun x hx => q2.block x (h5 x hx).2 (h5 x hx).1⟩
  rcases q3 x ht with h | h
  · exact (h5 x hx).1 h
  · have := (h5 x hx).2; omega
/-- a contract of the object's, told of any place it lies at. -/
theorem TX.same {T T' : List Nat} (h : TX w0 w a T S) (h' : TX w0 w a T' S') : T = T' := by
  obtain ⟨mb, vp, vd, rfl, h1⟩ := h
  obtain ⟨mb', vp', vd', rfl, h1'⟩ := h'
  have e := h1.h
  rw [h1'.h] at e
  have e2 : vp' = vp ∧ vd' = vd ∧ mb' = mb := by
    simp at e
    exact ⟨e.1, e.2.1, e.2.2.2.2⟩
  obtain ⟨rfl, rfl, rfl⟩ := e2
  rfl
theorem Tu.new {m d : Int} (h : newOk m d) (w : World) : Calls Tryd.prog 22 #[.int .i64 m, .int .i64 d] w fun e w' => ∃ a, e = .returned (.tuple #[.pointer (some ⟨a, 0, none⟩), .int .i64 0]) ∧ Tu w w' a (newT m d) [] := by
  refine (new_ok w m d h w (Nat.le_refl _)).mono ?_
  rintro e w' ⟨a, T, rfl, h1, k, _⟩
  exact ⟨a, rfl, T, h1, Gd.new h.1 h.2.1 h.2.2.1 h.2.2.2, k, by simp⟩
theorem Tu.add (h : Tu w0 w a S X) {k : Int} (hk : iOk k) : Calls Tryd.prog 52 #[.pointer (some ⟨a, 0, none⟩), .int .i64 k] w fun e w' => e = .returned (.int .i64 (adE S k)) ∧ Tu w0 w' a (adS S k) X ∧ Lk X w w' := by
  have h0 := h
  obtain ⟨T, h1, h2, _⟩ := h0
  refine (add_any h1 h2 k).mono ?_
  rintro e w' ⟨rfl, z⟩
  exact ⟨rfl, h.nz (h2.add hk) (fun T' q => by rw [← h1.same q]; exact z)⟩
theorem Tu.touch (h : Tu w0 w a S X) (k : Int) : Calls Tryd.prog 27 #[.pointer (some ⟨a, 0, none⟩), .int .i64 k] w fun e w' => e = .returned (.bool (inT S k)) ∧ Tu w0 w' a (toS S k) X ∧ Lk X w w' := by
  have h0 := h
  obtain ⟨T, h1, h2, _⟩ := h0
  refine (touch_any h1 h2 k).mono ?_
  rintro e w' ⟨rfl, z⟩
  exact ⟨rfl, h.nz (h2.touch k) (fun T' q => by rw [← h1.same q]; exact z)⟩
theorem Tu.pin (h : Tu w0 w a S X) (hn : S.n < 1000) (k : Int) (on : Bool) : Calls Tryd.prog 32 #[.pointer (some ⟨a, 0, none⟩), .int .i64 k, .bool on] w fun e w' => e = .returned (.bool (inT S k)) ∧ Tu w0 w' a (pnS S k on) X ∧ Lk X w w' := by
  have h0 := h
  obtain ⟨T, h1, h2, _⟩ := h0
  refine (pin_any h1 h2 hn k on).mono ?_
  rintro e w' ⟨rfl, z⟩
  exact ⟨rfl, h.nz (h2.pin k on) (fun T' q => by rw [← h1.same q]; exact z)⟩
theorem Tu.drop (h : Tu w0 w a S X) (k : Int) : Calls Tryd.prog 57 #[.pointer (some ⟨a, 0, none⟩), .int .i64 k] w fun e w' => e = .returned (.bool (inT S k)) ∧ Tu w0 w' a (drS S k) X ∧ Lk X w w' := by
  have h0 := h
  obtain ⟨T, h1, h2, _⟩ := h0
  refine (drop_any h1 h2 k).mono ?_
  rintro e w' ⟨rfl, z⟩
  exact ⟨rfl, h.nz (h2.drop k) (fun T' q => by rw [← h1.same q]; exact z)⟩
theorem Tu.has (h : Tu w0 w a S X) (k : Int) : Calls Tryd.prog 55 #[.pointer (some ⟨a, 0, none⟩), .int .i64 k] w fun e w' => e = .returned (.tuple #[.bool (inT S k), .bool (decide (k ∈ S.D))]) ∧ w' = w := by
  obtain ⟨T, h1, h2, _⟩ := h
  exact has_any h1 h2 k
theorem Tu.len (h : Tu w0 w a S X) : Calls Tryd.prog 77 #[.pointer (some ⟨a, 0, none⟩)] w fun e w' => e = .returned (.tuple #[.int .i64 ((S.P.length : Int) + (S.D.length : Int)), .int .i64 (S.D.length : Int)]) ∧ Kp w w' := by
  obtain ⟨T, h1, h2, _⟩ := h
  exact len_any h1 h2
theorem Tu.full (h : Tu w0 w a S X) : Calls Tryd.prog 67 #[.pointer (some ⟨a, 0, none⟩)] w fun e w' => e = .returned (.bool (decide (S.M ≤ (S.P.length : Int) + (S.D.length : Int)))) ∧ Kp w w' := by
  obtain ⟨T, h1, h2, _⟩ := h
  exact full_any h1 h2
theorem Tu.victim (h : Tu w0 w a S X) : Calls Tryd.prog 68 #[.pointer (some ⟨a, 0, none⟩)] w fun e w' => e = .returned (.tuple #[.int .i64 (vcK S), .bool (vcO S).isSome]) ∧ Kp w w' := by
  obtain ⟨T, h1, h2, _⟩ := h
  exact victim_any h1 h2
theorem Tu.order (h : Tu w0 w a S X) : Calls Tryd.prog 78 #[.pointer (some ⟨a, 0, none⟩)] w fun e w' => ∃ v, e = .returned v ∧ OwnI w' w.heap.size v (S.P ++ S.D) ∧ Kp w w' := by
  obtain ⟨T, h1, h2, _⟩ := h
  exact order_any h1 h2
end

/-! ### a nil turn -/
set_option maxRecDepth 100000 in
theorem nlen (w : World) : Calls Tryd.prog 77 #[.pointer none] w fun e w' => e = .returned (.tuple #[.int .i64 0, .int .i64 0]) ∧ Kp w w' := by
  go_enter Tryd.func77, Tryd.ntmps77
  go_wp2
  go_ret2
  exact ⟨rfl, Kp.refl w⟩
set_option maxRecDepth 100000 in
theorem nfull (w : World) : Calls Tryd.prog 67 #[.pointer none] w fun e w' => e = .returned (.bool true) ∧ Kp w w' := by
  go_enter Tryd.func67, Tryd.ntmps67
  go_wp2_with fail
  refine (nlen w).mono ?_; rintro e w1 ⟨rfl, k1⟩
  go_wp2
  go_ret
  exact ⟨rfl, k1⟩
set_option maxRecDepth 100000 in
theorem nhas (k : Int) (w : World) : Calls Tryd.prog 55 #[.pointer none, .int .i64 k] w fun e w' => e = .returned (.tuple #[.bool false, .bool false]) ∧ Kp w w' := by
  go_enter Tryd.func55, Tryd.ntmps55
  go_wp2
  go_ret2
  exact ⟨rfl, Kp.refl w⟩
set_option maxRecDepth 100000 in
theorem nadd (k : Int) (w : World) : Calls Tryd.prog 52 #[.pointer none, .int .i64 k] w fun e w' => e = .returned (.int .i64 1) ∧ Kp w w' := by
  go_enter Tryd.func52, Tryd.ntmps52
  go_wp2
  go_ret
  exact ⟨rfl, Kp.refl w⟩
set_option maxRecDepth 100000 in
theorem ntake (k : Int) (w : World) : Calls Tryd.prog 48 #[.pointer none, .int .i64 k] w fun e w' => e = .returned (.bool false) ∧ Kp w w' := by
  go_enter Tryd.func48, Tryd.ntmps48
  go_wp2
  go_ret
  exact ⟨rfl, Kp.refl w⟩
set_option maxRecDepth 100000 in
theorem ntouch (k : Int) (w : World) : Calls Tryd.prog 27 #[.pointer none, .int .i64 k] w fun e w' => e = .returned (.bool false) ∧ Kp w w' := by
  go_enter Tryd.func27, Tryd.ntmps27
  go_wp2_with fail
  refine (ntake k w).mono ?_; rintro e w1 ⟨rfl, k1⟩
  go_wp2
  go_ret
  exact ⟨rfl, k1⟩
set_option maxRecDepth 100000 in
theorem ndrop (k : Int) (w : World) : Calls Tryd.prog 57 #[.pointer none, .int .i64 k] w fun e w' => e = .returned (.bool false) ∧ Kp w w' := by
  go_enter Tryd.func57, Tryd.ntmps57
  go_wp2_with fail
  refine (ntake k w).mono ?_; rintro e w1 ⟨rfl, k1⟩
  go_wp2
  go_ret
  exact ⟨rfl, k1⟩
set_option maxRecDepth 100000 in
theorem npin (k : Int) (on : Bool) (w : World) : Calls Tryd.prog 32 #[.pointer none, .int .i64 k, .bool on] w fun e w' => e = .returned (.bool false) ∧ Kp w w' := by
  go_enter Tryd.func32, Tryd.ntmps32
  go_wp2_with fail
  refine (nhas k w).mono ?_; rintro e w1 ⟨rfl, k1⟩
  go_wp2
  go_ret
  exact ⟨rfl, k1⟩
set_option maxRecDepth 100000 in
theorem norder (w : World) : Calls Tryd.prog 78 #[.pointer none] w fun e w' => e = .returned (.slice none 0 0) ∧ Kp w w' := by
  go_enter Tryd.func78, Tryd.ntmps78
  go_wp2
  go_ret
  exact ⟨rfl, Kp.refl w⟩

/-! ### equal -/
theorem eq_next {l m : List Int} {i : Nat} (h : l.length = m.length) (hi : i < l.length) (e : l.take i = m.take i) (d : l.getD i 0 = m.getD i 0) : l.take (i + 1) = m.take (i + 1) := by
  rw [take_next hi, take_next (by omega), e, d]

end Go.Proofs.YtncdidklgpmefaaDoor
