/-
  A lift in use (Lu): the object, what it may be, blocks that lie beside it; its calls as they are used by the laws; the laws' wakes; a nil lift's calls. No condition but those of Lu.
-/
import Derived.Test.YtcmomebjkbhboaaLfPick
namespace Go.Proofs.Ytcmomebjkbhboaa
open Go.RowKit Plain
set_option linter.unusedVariables false

def Lu (w0 w : World) (a : Nat) (S : LS) (m : Int) (X : List Nat) : Prop := ∃ T, LX w0 w a T S ∧ Lg S m ∧ Kp w0 w ∧ 0 ≤ m ∧ ∀ x ∈ X, x ∉ T ∧ x < w.heap.size
def Lk (X : List Nat) (w w' : World) : Prop := ∀ x ∈ X, w'.heap[x]? = w.heap[x]?
theorem Lk.refl (X : List Nat) (w : World) : Lk X w w := fun _ _ => rfl
theorem Lk.trans {X : List Nat} {a b c : World} (h : Lk X a b) (k : Lk X b c) : Lk X a c := fun x hx => (k x hx).trans (h x hx)
section
variable {w0 w w' : World} {a : Nat} {S S' : LS} {m m' : Int} {X : List Nat}
theorem Lu.g (h : Lu w0 w a S m X) : Lg S m := by obtain ⟨_, _, h, _⟩ := h; exact h
theorem Lu.k (h : Lu w0 w a S m X) : Kp w0 w := by obtain ⟨_, _, _, h, _⟩ := h; exact h
theorem Lu.kp (h : Lu w0 w a S m X) (k : Kp w w') : Lu w0 w' a S m X ∧ Lk X w w' := by
  obtain ⟨T, h1, h2, h3, h4, h5⟩ := h
  exact ⟨⟨T, h1.kept k, h2, h3.trans k, h4, fun x hx => ⟨(h5 x hx).1, Nat.lt_of_lt_of_le (h5 x hx).2 k.size⟩⟩, fun x hx => k.block x (h5 x hx).2⟩
theorem Lu.sp (h : Lu w0 w a S m X) {T' : List Nat} (k : Sp T' w w') (hT : ∀ t ∈ T', t ∈ X ∧ w0.heap.size ≤ t) : Lu w0 w' a S m X := by
  obtain ⟨T, h1, h2, h3, h4, h5⟩ := h
  exact ⟨T, OL.lx.sp h1 k (fun t ht ht' => (h5 t (hT t ht').1).1 ht), h2, Sp.kp h3 k (fun t ht => (hT t ht).2), h4, fun x hx => ⟨(h5 x hx).1, Nat.lt_of_lt_of_le (h5 x hx).2 k.size⟩⟩
/-- a new block beside it. -/
theorem Lu.more (h : Lu w0 w a S m X) (k : Kp w w') {M : Nat} (h1 : w.heap.size ≤ M) (h2 : M < w'.heap.size) : Lu w0 w' a S m (M :: X) := by
  obtain ⟨T, q1, q2, q3, q4, q5⟩ := h
  refine ⟨T, q1.kept k, q2, q3.trans k, q4, fun x hx => ?_⟩
  rcases List.mem_cons.1 hx with rfl | hx
  · exact ⟨fun ht => by have := OL.lx.low q1 x ht; omega, h2⟩
  · exact ⟨(q5 x hx).1, Nat.lt_of_lt_of_le (q5 x hx).2 k.size⟩
theorem Lu.nz (h : Lu w0 w a S m X) (hm : Lg S' m') (h0 : 0 ≤ m') (z : ∀ T, LX w0 w a T S → Lg S m → Nz LX w0 w w' a T S') : Lu w0 w' a S' m' X ∧ Lk X w w' := by
  obtain ⟨T, h1, h2, h3, h4, h5⟩ := h
  obtain ⟨T', q1, q2, q3⟩ := z T h1 h2
  refine ⟨⟨T', q1, hm, Sp.kp h3 q2 (OL.lx.new h1), h0, fun x hx => ⟨fun ht => ?_, Nat.lt_of_lt_of_le (h5 x hx).2 q2.size⟩⟩, fun x hx => q2.block x (h5 x hx).2 (h5 x hx).1⟩
  rcases q3 x ht with h | h
  · exact (h5 x hx).1 h
  · have := (h5 x hx).2; omega
/-- a contract of the object's, told of any place it lies at. -/
theorem LX.same {T T' : List Nat} (h : LX w0 w a T S) (h' : LX w0 w a T' S') : T = T' := by
  obtain ⟨v, rfl, h1, _⟩ := h
  obtain ⟨v', rfl, h1', _⟩ := h'
  rw [h1] at h1'
  have : v = v' := by
    have := h1'
    simp at this
    exact this.1
  rw [this]
theorem Lu.new (g : Int) (w : World) : Calls Try.prog 7 #[.int .i64 g] w fun e w' => ∃ a, e = .returned (.pointer (some ⟨a, 0, none⟩)) ∧ Lu w w' a ⟨[], gA g, 0⟩ 0 [] := by
  refine (lnew_any w g w (Nat.le_refl _)).mono ?_
  rintro e w' ⟨a, T, rfl, h, k, _⟩
  exact ⟨a, rfl, T, h, Lg.new g, k, Int.le_refl _, by simp⟩
theorem Lu.add (h : Lu w0 w a S m X) (b : Int) : Calls Try.prog 14 #[.pointer (some ⟨a, 0, none⟩), .int .i64 b] w fun e w' => e = .returned (.int .i64 (adE S b)) ∧ Lu w0 w' a (adS S b) m X ∧ Lk X w w' := by
  have h0 := h
  obtain ⟨T, h1, h2, h3, h4, h5⟩ := h0
  refine (add_any h1 h2.l b).mono ?_
  rintro e w' ⟨rfl, z⟩
  exact ⟨rfl, h.nz (h2.add h4 b) h4 (fun T' q _ => by rw [← h1.same q]; exact z)⟩
theorem Lu.drop (h : Lu w0 w a S m X) (b : Int) : Calls Try.prog 12 #[.pointer (some ⟨a, 0, none⟩), .int .i64 b] w fun e w' => e = .returned (.bool (hsW S.L b)) ∧ Lu w0 w' a ⟨dlL S.L b, S.g, S.h⟩ m X ∧ Lk X w w' := by
  have h0 := h
  obtain ⟨T, h1, h2, h3, h4, h5⟩ := h0
  refine (drop_any h1 h2.l h2.nd b).mono ?_
  rintro e w' ⟨rfl, z⟩
  exact ⟨rfl, h.nz (h2.drop b) h4 (fun T' q _ => by rw [← h1.same q]; exact z)⟩
theorem Lu.pick (h : Lu w0 w a S m X) (hm : m ≤ 1000000) (hp : 0 < S.L.length) : Calls Try.prog 10 #[.pointer (some ⟨a, 0, none⟩)] w fun e w' => ∃ k, e = .returned (.tuple #[.int .i64 k, .bool true]) ∧ Nx S k ∧ Lu w0 w' a (pkS S k) (m + 1) X ∧ Lk X w w' := by
  have h0 := h
  obtain ⟨T, h1, h2, h3, h4, h5⟩ := h0
  refine (pick_any h1 h2 hm hp).mono ?_
  rintro e w' ⟨k, rfl, hk, z⟩
  exact ⟨k, rfl, hk, h.nz (h2.pick k) (by omega) (fun T' q _ => by rw [← h1.same q]; exact z)⟩
theorem Lu.pick0 (h : Lu w0 w a S m X) (hp : S.L.length = 0) : Calls Try.prog 10 #[.pointer (some ⟨a, 0, none⟩)] w fun e w' => e = .returned (.tuple #[.int .i64 0, .bool false]) ∧ Lu w0 w' a S m X ∧ Lk X w w' := by
  have h0 := h
  obtain ⟨T, h1, h2, h3, h4, h5⟩ := h0
  refine (pick_none h1 hp).mono ?_
  rintro e w' ⟨rfl, k⟩
  exact ⟨rfl, h.kp k⟩
theorem Lu.len (h : Lu w0 w a S m X) : Calls Try.prog 19 #[.pointer (some ⟨a, 0, none⟩)] w fun e w' => e = .returned (.int .i64 S.L.length) ∧ Lu w0 w' a S m X ∧ Lk X w w' := by
  have h0 := h
  obtain ⟨T, h1, h2, h3, h4, h5⟩ := h0
  refine (llen_any h1 h2.l).mono ?_
  rintro e w' ⟨rfl, k⟩
  exact ⟨rfl, h.kp k⟩
end

theorem Lk.at {X : List Nat} {w w' : World} (h : Lk X w w') {b : Nat} (hb : b ∈ X) {o : Obj} (e : w.heap[b]? = some o) : w'.heap[b]? = some o := (h b hb).trans e

/-! ### wakes -/
def wkL : List Wt := [⟨5, 0⟩, ⟨2, 0⟩, ⟨9, 0⟩]
theorem wk_add (k : Nat) (hk : k < 3) : adE ⟨wkL.take k, 10, 0⟩ ((wkL.getD k wz).k) = 0 ∧ adS ⟨wkL.take k, 10, 0⟩ ((wkL.getD k wz).k) = ⟨wkL.take (k + 1), 10, 0⟩ := by
  have h : k = 0 ∨ k = 1 ∨ k = 2 := by omega
  rcases h with rfl | rfl | rfl <;> exact ⟨by decide, by rw [ad_ok (by decide)]; rfl⟩
theorem wk_row (k : Nat) (hk : k < 3) : (#[Value.int .i64 5, Value.int .i64 2, Value.int .i64 9] : Array Value)[k]? = some (.int .i64 (wkL.getD k wz).k) := by
  have h : k = 0 ∨ k = 1 ∨ k = 2 := by omega
  rcases h with rfl | rfl | rfl <;> rfl
theorem wk_p1 {k : Int} (h : Nx ⟨wkL.take 3, 10, 0⟩ k) : k = 2 ∧ pkS ⟨wkL.take 3, 10, 0⟩ k = ⟨[⟨5, 1⟩, ⟨9, 1⟩], 10, 3⟩ := by
  obtain rfl := nx_one h (⟨⟨⟨2, 0⟩, by simp [wkL], rfl⟩, fun h => absurd h (by decide), fun _ => .inl ⟨by decide, by decide⟩⟩ : Nx ⟨wkL.take 3, 10, 0⟩ 2)
  exact ⟨rfl, rfl⟩
theorem wk_a1 : adE ⟨[⟨5, 1⟩, ⟨9, 1⟩], 10, 3⟩ 1 = 0 ∧ adS ⟨[⟨5, 1⟩, ⟨9, 1⟩], 10, 3⟩ 1 = ⟨[⟨5, 1⟩, ⟨9, 1⟩, ⟨1, 0⟩], 10, 3⟩ := ⟨by decide, by rw [ad_ok (by decide)]; rfl⟩
theorem wk_p2 {k : Int} (h : Nx ⟨[⟨5, 1⟩, ⟨9, 1⟩, ⟨1, 0⟩], 10, 3⟩ k) : k = 5 ∧ pkS ⟨[⟨5, 1⟩, ⟨9, 1⟩, ⟨1, 0⟩], 10, 3⟩ k = ⟨[⟨9, 2⟩, ⟨1, 1⟩], 10, 6⟩ := by
  obtain rfl := nx_one h (⟨⟨⟨5, 1⟩, by simp, rfl⟩, fun h => absurd h (by decide), fun _ => .inl ⟨by decide, by decide⟩⟩ : Nx ⟨[⟨5, 1⟩, ⟨9, 1⟩, ⟨1, 0⟩], 10, 3⟩ 5)
  exact ⟨rfl, rfl⟩
theorem wk_p3 {k : Int} (h : Nx ⟨[⟨9, 2⟩, ⟨1, 1⟩], 10, 6⟩ k) : k = 9 ∧ pkS ⟨[⟨9, 2⟩, ⟨1, 1⟩], 10, 6⟩ k = ⟨[⟨1, 2⟩], 10, 10⟩ := by
  obtain rfl := nx_one h (⟨⟨⟨9, 2⟩, by simp, rfl⟩, fun h => absurd h (by decide), fun _ => .inl ⟨by decide, by decide⟩⟩ : Nx ⟨[⟨9, 2⟩, ⟨1, 1⟩], 10, 6⟩ 9)
  exact ⟨rfl, rfl⟩
theorem wk_p4 {k : Int} (h : Nx ⟨[⟨1, 2⟩], 10, 10⟩ k) : k = 1 ∧ pkS ⟨[⟨1, 2⟩], 10, 10⟩ k = ⟨[], 10, 2⟩ := by
  obtain rfl := nx_one h (⟨⟨⟨1, 2⟩, by simp, rfl⟩, fun h => absurd h (by decide), fun _ => .inr ⟨by decide, by decide⟩⟩ : Nx ⟨[⟨1, 2⟩], 10, 10⟩ 1)
  exact ⟨rfl, rfl⟩
set_option maxRecDepth 100000 in
set_option maxHeartbeats 4000000 in
theorem wakes_any (w : World) : Calls Try.prog 9 #[] w fun e w' => e = .returned (.bool true) ∧ Kp w w' := by
  have hN := Lu.new 10 w
  rw [show gA 10 = 10 from rfl] at hN
  go_enter Try.func9, Try.ntmps9
  go_wp2_with fail
  refine hN.mono ?_; rintro e w1 ⟨a, rfl, u1⟩
  clear hN
  obtain ⟨W, hW⟩ : ∃ W, W = w1.alloc (.cells #[.int .i64 5, .int .i64 2, .int .i64 9] 3) := ⟨_, rfl⟩
  obtain ⟨B, hB⟩ : ∃ B, B = w1.heap.size := ⟨_, rfl⟩
  have kW : Kp w1 W := by rw [hW]; exact (Kp.refl w1).alloc _
  have hBo : W.heap[B]? = some (.cells #[.int .i64 5, .int .i64 2, .int .i64 9] 3 (0, 0)) := by rw [hW, hB]; exact new_obj _ _ _
  have H0 : Hid (Lu w W a ⟨wkL.take 0, 10, 0⟩ 0 [B] ∧ W.heap[B]? = some (.cells #[.int .i64 5, .int .i64 2, .int .i64 9] 3 (0, 0))) := ⟨u1.more kW (by omega) (heap_lt hBo), hBo⟩
  have HW : Hid (W = w1.alloc (.cells #[.int .i64 5, .int .i64 2, .int .i64 9] 3) ∧ B = w1.heap.size) := ⟨hW, hB⟩
  clear hW hB kW hBo u1
  go_upto_region 3 with fail
  rw [← HW.out.1, ← HW.out.2]
  clear HW
  go_loopw [16] (fun i wr => ∃ k : Nat, i = .int .i64 k ∧ k ≤ 3 ∧ Hid (Lu w wr a ⟨wkL.take k, 10, 0⟩ 0 [B] ∧ wr.heap[B]? = some (.cells #[.int .i64 5, .int .i64 2, .int .i64 9] 3 (0, 0)))) (fun i _ => 3 - (intOf i).toNat)
  case atStart => exact ⟨0, rfl, by omega, H0⟩
  case round =>
    clear H0
    obtain ⟨k, rfl, hk, HQ⟩ := hrel
    by_cases hk3 : k < 3
    · have d0 : wr.cell? ⟨B, k, none⟩ = some (.int .i64 (wkL.getD k wz).k) := by rw [cell_of HQ.out.2]; exact wk_row k hk3
      have hA := HQ.out.1.add (wkL.getD k wz).k
      obtain ⟨e1, e2⟩ := wk_add k hk3
      rw [e1, e2] at hA
      obtain ⟨x, hx⟩ : ∃ x, x = (wkL.getD k wz).k := ⟨_, rfl⟩
      rw [← hx] at d0 hA
      have hk4 : (k : Int) < 3 := by omega
      clear hx e1 e2
      go_wp2_with fail
      refine hA.mono ?_; rintro e w2 ⟨rfl, u2, l2⟩
      have HQ2 : Hid (Lu w w2 a ⟨wkL.take (k + 1), 10, 0⟩ 0 [B] ∧ w2.heap[B]? = some (.cells #[.int .i64 5, .int .i64 2, .int .i64 9] 3 (0, 0))) := ⟨u2, l2.at (by simp) HQ.out.2⟩
      clear hA u2 l2 d0 HQ
      go_wp2
      go_roundw
      case rel => exact ⟨k + 1, by go_num, by omega, HQ2⟩
      case measure => simp [intOf]; omega
    · obtain rfl : k = 3 := by omega
      have hP := HQ.out.1.pick (by omega) (by decide)
      clear HQ
      go_wp2_with fail
      refine hP.mono ?_; rintro e w2 ⟨k1, rfl, n1, u2, _⟩
      obtain ⟨rfl, e1⟩ := wk_p1 n1
      rw [e1] at u2
      have hA := u2.add 1
      rw [wk_a1.1, wk_a1.2] at hA
      clear hP n1 u2 e1
      go_wp2_with fail
      refine hA.mono ?_; rintro e w3 ⟨rfl, u3, _⟩
      have hP := u3.pick (by omega) (by decide)
      clear hA u3
      go_wp2_with fail
      refine hP.mono ?_; rintro e w4 ⟨k2, rfl, n2, u4, _⟩
      obtain ⟨rfl, e2⟩ := wk_p2 n2
      rw [e2] at u4
      have hP2 := u4.pick (by omega) (by decide)
      clear hP n2 u4 e2
      go_wp2_with fail
      refine hP2.mono ?_; rintro e w5 ⟨k3, rfl, n3, u5, _⟩
      obtain ⟨rfl, e3⟩ := wk_p3 n3
      rw [e3] at u5
      have hP3 := u5.pick (by omega) (by decide)
      clear hP2 n3 u5 e3
      go_wp2_with fail
      refine hP3.mono ?_; rintro e w6 ⟨k4, rfl, n4, u6, _⟩
      obtain ⟨rfl, e4⟩ := wk_p4 n4
      rw [e4] at u6
      have hL := u6.len
      clear hP3 n4 u6 e4
      go_wp2_with fail
      refine hL.mono ?_; rintro e w7 ⟨rfl, u7, _⟩
      have HK := hid u7.k
      clear hL u7
      go_wp2
      go_ret
      exact ⟨by simp, HK.out⟩

/-! ### a nil lift -/
set_option maxRecDepth 100000 in
theorem nfind (b : Int) (w : World) : Calls Try.prog 25 #[.pointer none, .int .i64 b] w fun e w' => e = .returned (.tuple #[.int .i64 (-1), .bool false]) ∧ Kp w w' := by
  go_enter Try.func25, Try.ntmps25
  go_wp2
  go_ret2
  exact ⟨rfl, (Kp.refl w).alloc _⟩
set_option maxRecDepth 100000 in
theorem nlen (w : World) : Calls Try.prog 19 #[.pointer none] w fun e w' => e = .returned (.int .i64 0) ∧ Kp w w' := by
  go_enter Try.func19, Try.ntmps19
  go_wp2
  go_ret
  exact ⟨rfl, Kp.refl w⟩
set_option maxRecDepth 100000 in
theorem nhead (w : World) : Calls Try.prog 21 #[.pointer none] w fun e w' => e = .returned (.int .i64 0) ∧ Kp w w' := by
  go_enter Try.func21, Try.ntmps21
  go_wp2
  go_ret
  exact ⟨rfl, Kp.refl w⟩
set_option maxRecDepth 100000 in
theorem nkeys (w : World) : Calls Try.prog 20 #[.pointer none] w fun e w' => e = .returned (.slice none 0 0) ∧ Kp w w' := by
  go_enter Try.func20, Try.ntmps20
  go_wp2
  go_ret
  exact ⟨rfl, Kp.refl w⟩
set_option maxRecDepth 100000 in
theorem nadd (b : Int) (w : World) : Calls Try.prog 14 #[.pointer none, .int .i64 b] w fun e w' => e = .returned (.int .i64 1) ∧ Kp w w' := by
  go_enter Try.func14, Try.ntmps14
  go_wp2
  go_ret
  exact ⟨rfl, Kp.refl w⟩
set_option maxRecDepth 100000 in
theorem npick (w : World) : Calls Try.prog 10 #[.pointer none] w fun e w' => e = .returned (.tuple #[.int .i64 0, .bool false]) ∧ Kp w w' := by
  go_enter Try.func10, Try.ntmps10
  go_wp2_with fail
  refine (nlen w).mono ?_; rintro e w1 ⟨rfl, k1⟩
  go_wp2
  go_ret2
  exact ⟨rfl, k1⟩
set_option maxRecDepth 100000 in
theorem nwaited (b : Int) (w : World) : Calls Try.prog 16 #[.pointer none, .int .i64 b] w fun e w' => e = .returned (.tuple #[.int .i64 0, .bool false]) ∧ Kp w w' := by
  go_enter Try.func16, Try.ntmps16
  go_wp2_with fail
  refine (nfind b w).mono ?_; rintro e w1 ⟨rfl, k1⟩
  go_wp2
  go_ret2
  exact ⟨rfl, k1⟩
set_option maxRecDepth 100000 in
theorem ndrop (b : Int) (w : World) : Calls Try.prog 12 #[.pointer none, .int .i64 b] w fun e w' => e = .returned (.bool false) ∧ Kp w w' := by
  go_enter Try.func12, Try.ntmps12
  go_wp2_with fail
  refine (nfind b w).mono ?_; rintro e w1 ⟨rfl, k1⟩
  go_wp2
  go_ret
  exact ⟨rfl, k1⟩

end Go.Proofs.Ytcmomebjkbhboaa
