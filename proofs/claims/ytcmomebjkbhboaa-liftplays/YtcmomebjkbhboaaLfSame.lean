/-
  Contract of the laws' same; both lifts in memory, and a block beside them. Conditions: that the objects lie in memory as LX and RX say.
-/
import Derived.Test.YtcmomebjkbhboaaLfRPick
namespace Go.Proofs.Ytcmomebjkbhboaa
open Go.RowKit Plain
set_option linter.unusedVariables false

theorem rs_lt {l : List Wt} (hnd : Nd l) {i j : Nat} (hij : i < j) (hj : j < l.length) : (rsL l).getD i 0 < (rsL l).getD j 0 := by
  have h1 := rs_at (l := l) (i := i) (j := j) (by omega) hj
  have hn : (rsL l).Nodup := by
    unfold rsL
    rw [(List.mergeSort_perm (l.map Wt.k) fun x y => decide (x ≤ y)).nodup_iff, List.Nodup, List.pairwise_map]
    exact hnd
  rw [← rs_len] at hj
  have h2 := List.pairwise_iff_getElem.1 hn i j (by omega) hj hij
  rw [List.getD_eq_getElem?_getD, List.getD_eq_getElem?_getD, List.getElem?_eq_getElem hj, List.getElem?_eq_getElem (by omega : i < (rsL l).length)] at h1 ⊢
  simp only [Option.getD_some] at h1 ⊢
  omega
set_option maxRecDepth 100000 in
set_option maxHeartbeats 8000000 in
theorem same_any {w0 w : World} {l r : Nat} {T1 T2 : List Nat} {S : LS} {m : Int} (hL : LX w0 w l T1 S) (hR : RX w0 w r T2 S) (hg : Lg S m) : Calls Try.prog 18 #[.pointer (some ⟨l, 0, none⟩), .pointer (some ⟨r, 0, none⟩)] w fun e w' => e = .returned (.bool true) ∧ Kp w w' := by
  have hK := keys_any hL hg.l
  have HX := hid (And.intro hL (And.intro hR hg))
  clear hL hR hg
  go_enter Try.func18, Try.ntmps18
  go_wp2_with fail
  refine hK.mono ?_; rintro e w1 ⟨u, rfl, hu, k1⟩
  obtain ⟨a3, g3, cap3, rfl, r1, r2, r3, r4⟩ := hu.ints
  have hrl := rs_len S.L
  rw [hrl] at r1 r3 r4 ⊢
  obtain ⟨n, hn⟩ : ∃ n, n = S.L.length := ⟨_, rfl⟩
  have HN := hid hn
  have HR : Hid ((0 < n → a3 = some ⟨g3, 0, none⟩) ∧ ∀ j, j < n → w1.cell? ⟨g3, j, none⟩ = some (.int .i64 ((rsL S.L).getD j 0))) := by rw [hn]; exact ⟨r3, r4⟩
  rw [← hn] at r1 ⊢
  have hn256 : n ≤ 256 := by rw [hn]; exact HX.out.2.2.len
  obtain ⟨pk, ck, pw, cw, ho, _⟩ := RL.obj (HX.out.2.1.kept k1)
  rw [List.length_map, List.length_map, ← hn] at ho
  have q1 : w1.cell? ⟨r, 1, none⟩ = some (.int .i64 S.h) := cell_of ho 1
  have q2 : w1.cell? ⟨r, 2, none⟩ = some (.slice pk n ck) := cell_of ho 2
  have HO := hid ho
  have HK1 := hid k1
  have z1 := kpw_cell q1
  have z2 := kpw_cell q2
  have hLe := fun p => llen_any ((HX.out.1.kept k1).kept (kpw_kp w1 p)) HX.out.2.2.l
  rw [← hn] at hLe
  have hHe := fun p => lhead_any ((HX.out.1.kept k1).kept (kpw_kp w1 p))
  obtain ⟨hh, hhh⟩ : ∃ hh, hh = S.h := ⟨_, rfl⟩
  rw [← hhh] at z1 hHe
  clear hK k1 hu r3 r4 hn ho q1 q2 hrl hhh
  go_wp2_with fail
  refine wp_region_kp (by kernel_rfl) (by kernel_rfl) ?_
  repeat (first
    | go_big_quiet_skip
    | (go_big_quiet_want; go_big_quiet_op; go_big_quiet_on)
    | (go_big_quiet_want; go_big_quiet_op; apply Exists.intro; refine ⟨fun p => ?_, ?_⟩; (focus (first
        | (go_at_call 19; with_reducible exact kp_call (hLe _))
        | (go_at_call 21; with_reducible exact kp_call (hHe _)))); go_big_quiet_on))
  refine wpQuiet_nil ?_
  rintro w2 ⟨p, hp⟩
  have HK2 : Hid (Kp w1 w2) := by show Kp w1 w2; rw [hp]; exact kpw_kp _ p
  clear hp z1 z2 hLe hHe
  go_wp2_with fail
  go_loopw [6, 7, 8, 9, 10, 42] (fun _ _ _ _ _ x wr => ∃ j : Nat, x = .int .i64 j ∧ j ≤ n ∧ Kp w1 wr) (fun _ _ _ _ _ x _ => n - (intOf x).toNat)
  case atStart => exact ⟨0, rfl, by omega, HK2.out⟩
  case round =>
    clear HK2
    obtain ⟨j, rfl, hj, kr⟩ := hrel
    by_cases hjn : j < n
    · obtain rfl := HR.out.1 (by omega)
      have hjl : j < S.L.length := by have := HN.out; omega
      have d0 := kr.held (HR.out.2 j hjn)
      obtain ⟨y0, hy0, hb⟩ := rs_get hjl
      have hlt := fun (i : Nat) (hi : i < j) => rs_lt HX.out.2.2.nd hi hjl
      have dprev := fun (i : Nat) (hi : i < j) => kr.held (HR.out.2 i (by omega))
      obtain ⟨b, hbb⟩ : ∃ b, b = (rsL S.L).getD j 0 := ⟨_, rfl⟩
      rw [← hbb] at d0 hb hlt
      have hXr := (HX.out.2.1.kept HK1.out).kept kr
      have hF := rfind_any hXr HX.out.2.2.l b
      have hW := waited_any ((HX.out.1.kept HK1.out).kept kr) HX.out.2.2.l b
      have hhs : hsW S.L b = true := (hs_iff _ _).2 ⟨y0, hy0, hb⟩
      rw [hhs] at hW
      obtain ⟨pk3, gk3, ck3, pw3, gw3, cw3, _, hpw3, _, _, hw31, hw32, _, _, _, b3, _, _, hcw3⟩ := RL.cells hXr
      rw [List.length_map] at hpw3 hw31 b3 hcw3
      have HB3 : Hid ((0 < n → pw3 = some ⟨gw3, 0, none⟩) ∧ wr.cell? ⟨r, 3, none⟩ = some (.slice pw3 n cw3) ∧ (∀ i, i < n → wr.cell? ⟨gw3, i, none⟩ = some (.int .i64 ((S.L.map Wt.n).getD i 0))) ∧ n ≤ cw3) := by rw [HN.out]; exact ⟨hpw3, b3, hcw3, hw31⟩
      have HHS := hid hhs
      have hjn2 : (j : Int) < (n : Int) := by omega
      have HLT : Hid (∀ i, i < j → (rsL S.L).getD i 0 < b ∧ wr.cell? ⟨g3, i, none⟩ = some (.int .i64 ((rsL S.L).getD i 0))) := fun i hi => ⟨hlt i hi, dprev i hi⟩
      clear hXr hpw3 b3 hcw3 hw31 hlt dprev hy0 hb hbb hhs
      go_wp2_with fail
      refine hF.mono ?_; rintro e v1 ⟨z, rfl, hz, rfl⟩
      rcases hz with ⟨rfl, hno⟩ | ⟨A, y, B, e1, rfl, hy, hA⟩
      · exfalso
        obtain ⟨x, hx1, hx2⟩ := (hs_iff _ _).1 HHS.out
        exact hno x hx1 hx2
      have hAl : A.length < n := by rw [HN.out, e1]; simp
      have hwn : wtN S.L b = y.n := by rw [e1]; exact wt_hit hA hy
      obtain ⟨rfl⟩ := HB3.out.1 (by omega)
      have w3 := HB3.out.2.2.1 A.length hAl
      have hyn : (S.L.map Wt.n).getD A.length 0 = y.n := by rw [e1]; simp [List.getD_eq_getElem?_getD]
      rw [hyn] at w3
      rw [hwn] at hW
      obtain ⟨yn, hynn⟩ : ∃ yn, yn = y.n := ⟨_, rfl⟩
      rw [← hynn] at w3 hW
      obtain ⟨at', hat⟩ : ∃ at', at' = A.length := ⟨_, rfl⟩
      rw [← hat] at w3 hAl ⊢
      have b3 := HB3.out.2.1
      have hcw9 := HB3.out.2.2.2
      clear hwn hyn hynn hat e1 hy hA hF
      go_wp2_with fail
      refine hW.mono ?_; rintro e v2 ⟨rfl, k2⟩
      have w3 := k2.held w3
      have b3 := k2.held b3
      have kr2 := kr.trans k2
      have HLT2 : Hid (∀ i, i < j → (rsL S.L).getD i 0 < b ∧ v2.cell? ⟨g3, i, none⟩ = some (.int .i64 ((rsL S.L).getD i 0))) := fun i hi => ⟨(HLT.out i hi).1, k2.held (HLT.out i hi).2⟩
      have hat2 : (at' : Int) < (n : Int) := by omega
      have hat3 : decide ((at' : Int) < 0) = false := by simp
      clear hW k2 HB3 HLT d0
      by_cases hj0 : j = 0
      · subst hj0
        go_wp2
        go_roundw
        case rel => exact ⟨1, by go_num, by omega, kr2⟩
        case measure => simp [intOf]; omega
      · obtain ⟨jj, rfl⟩ : ∃ jj, j = jj + 1 := ⟨j - 1, by omega⟩
        obtain ⟨p1, p2⟩ := HLT2.out jj (by omega)
        obtain ⟨pv, hpv⟩ : ∃ pv, pv = (rsL S.L).getD jj 0 := ⟨_, rfl⟩
        rw [← hpv] at p1 p2
        have hd1 : decide (b ≤ pv) = false := by simp; omega
        have hd0 : decide (0 < (((jj + 1 : Nat)) : Int)) = true := decide_eq_true (by omega)
        have hjj : (jj : Int) < (n : Int) := by omega
        clear hpv hj0
        go_wp2
        go_roundw
        case rel => exact ⟨jj + 1 + 1, by go_num, by omega, kr2⟩
        case measure => simp [intOf]; omega
    · obtain rfl : j = n := by omega
      go_wp2
      go_ret
      exact ⟨rfl, HK1.out.trans kr⟩

/-! ### both in memory, and a block beside them -/
def Pb (w X : World) (q r : Nat) (S R : LS) (H : Nat) (cs : Array Value) (t : TypeId) : Prop := ∃ T1 T2, LX w X q T1 S ∧ RX w X r T2 R ∧ Dj T1 T2 ∧ Kp w X ∧ H ∉ T1 ∧ H ∉ T2 ∧ X.heap[H]? = some (.cells cs t (0, 0))
def Pz (w X : World) (q r : Nat) (S R : LS) : Prop := ∃ T1 T2, LX w X q T1 S ∧ RX w X r T2 R ∧ Dj T1 T2 ∧ Kp w X
section
variable {w X X' : World} {q r : Nat} {S S' R R' : LS} {H : Nat} {cs : Array Value} {t : TypeId}
theorem Pb.pz (h : Pb w X q r S R H cs t) : Pz w X q r S R := by obtain ⟨T1, T2, h1, h2, h3, h4, _⟩ := h; exact ⟨T1, T2, h1, h2, h3, h4⟩
theorem Pb.kp (h : Pb w X q r S R H cs t) (k : Kp X X') : Pb w X' q r S R H cs t := by
  obtain ⟨T1, T2, h1, h2, h3, h4, h5, h6, h7⟩ := h
  exact ⟨T1, T2, h1.kept k, h2.kept k, h3, h4.trans k, h5, h6, (k.block H (heap_lt h7)).trans h7⟩
theorem Pz.kp (h : Pz w X q r S R) (k : Kp X X') : Pz w X' q r S R := by
  obtain ⟨T1, T2, h1, h2, h3, h4⟩ := h
  exact ⟨T1, T2, h1.kept k, h2.kept k, h3, h4.trans k⟩
theorem Pz.box (h : Pz w X q r S R) (cs : Array Value) (t : TypeId) : Pb w (X.alloc (.cells cs t)) q r S R X.heap.size cs t := by
  have k : Kp X (X.alloc (.cells cs t)) := (Kp.refl X).alloc _
  obtain ⟨T1, T2, h1, h2, h3, h4⟩ := h
  refine ⟨T1, T2, h1.kept k, h2.kept k, h3, h4.trans k, fun h => ?_, fun h => ?_, new_obj _ _ _⟩
  · have := OL.lx.low h1 _ h; omega
  · have := OL.rx.low h2 _ h; omega
/-- a call on the lift; what else stays. -/
theorem Pb.one (h : Pb w X q r S R H cs t) (hc : ∀ T1, LX w X q T1 S → Nz LX w X X' q T1 S') : Pb w X' q r S' R H cs t := by
  obtain ⟨T1, T2, h1, h2, h3, h4, h5, h6, h7⟩ := h
  obtain ⟨T', a1, a2, a3⟩ := hc T1 h1
  refine ⟨T', T2, a1, OL.rx.sp h2 a2 h3.symm, fun t ht ht2 => ?_, Sp.kp h4 a2 (OL.lx.new h1), fun h => ?_, h6, (a2.block H (heap_lt h7) h5).trans h7⟩
  · rcases a3 t ht with h | h
    · exact h3 t h ht2
    · have := OL.rx.low h2 t ht2; omega
  · rcases a3 H h with h | h
    · exact h5 h
    · have := heap_lt h7; omega
/-- a call on the document's. -/
theorem Pb.two (h : Pb w X q r S R H cs t) (hc : ∀ T2, RX w X r T2 R → Nz RX w X X' r T2 R') : Pb w X' q r S R' H cs t := by
  obtain ⟨T1, T2, h1, h2, h3, h4, h5, h6, h7⟩ := h
  obtain ⟨T', a1, a2, a3⟩ := hc T2 h2
  refine ⟨T1, T', OL.lx.sp h1 a2 h3, a1, fun t ht ht2 => ?_, Sp.kp h4 a2 (OL.rx.new h2), h5, fun h => ?_, (a2.block H (heap_lt h7) h6).trans h7⟩
  · rcases a3 t ht2 with h | h
    · exact h3 t ht h
    · have := OL.lx.low h1 t ht; omega
  · rcases a3 H h with h | h
    · exact h6 h
    · have := heap_lt h7; omega
theorem RX.same {T T' : List Nat} (h : RX w X r T R) (h' : RX w X r T' R') : T = T' := by
  obtain ⟨vk, vw, rfl, h1, _⟩ := h
  obtain ⟨vk', vw', rfl, h1', _⟩ := h'
  rw [h1] at h1'
  have : vk = vk' ∧ vw = vw' := by
    simp at h1'
    exact ⟨h1'.2.2.1, h1'.2.2.2⟩
  rw [this.1, this.2]
theorem Pb.add (h : Pb w X q r S R H cs t) (hl : S.L.length ≤ 1000) (b : Int) : Calls Try.prog 14 #[.pointer (some ⟨q, 0, none⟩), .int .i64 b] X fun e X' => e = .returned (.int .i64 (adE S b)) ∧ Pb w X' q r (adS S b) R H cs t := by
  have h0 := h
  obtain ⟨T1, T2, h1, _⟩ := h0
  refine (add_any h1 hl b).mono ?_
  rintro e X' ⟨rfl, z⟩
  exact ⟨rfl, h.one (fun T q => by rw [← h1.same q]; exact z)⟩
theorem Pb.radd (h : Pb w X q r S R H cs t) (hl : R.L.length ≤ 1000) (b : Int) : Calls Try.prog 15 #[.pointer (some ⟨r, 0, none⟩), .int .i64 b] X fun e X' => e = .returned (.int .i64 (adE R b)) ∧ Pb w X' q r S (adS R b) H cs t := by
  have h0 := h
  obtain ⟨T1, T2, _, h1, _⟩ := h0
  refine (radd_any h1 hl b).mono ?_
  rintro e X' ⟨rfl, z⟩
  exact ⟨rfl, h.two (fun T q => by rw [← RX.same h1 q]; exact z)⟩
theorem Pb.drop (h : Pb w X q r S R H cs t) (hl : S.L.length ≤ 1000) (hn : Nd S.L) (b : Int) : Calls Try.prog 12 #[.pointer (some ⟨q, 0, none⟩), .int .i64 b] X fun e X' => e = .returned (.bool (hsW S.L b)) ∧ Pb w X' q r ⟨dlL S.L b, S.g, S.h⟩ R H cs t := by
  have h0 := h
  obtain ⟨T1, T2, h1, _⟩ := h0
  refine (drop_any h1 hl hn b).mono ?_
  rintro e X' ⟨rfl, z⟩
  exact ⟨rfl, h.one (fun T q => by rw [← h1.same q]; exact z)⟩
theorem Pb.rdrop (h : Pb w X q r S R H cs t) (hl : R.L.length ≤ 1000) (hn : Nd R.L) (b : Int) : Calls Try.prog 13 #[.pointer (some ⟨r, 0, none⟩), .int .i64 b] X fun e X' => e = .returned (.bool (hsW R.L b)) ∧ Pb w X' q r S ⟨dlL R.L b, R.g, R.h⟩ H cs t := by
  have h0 := h
  obtain ⟨T1, T2, _, h1, _⟩ := h0
  refine (rdrop_any h1 hl hn b).mono ?_
  rintro e X' ⟨rfl, z⟩
  exact ⟨rfl, h.two (fun T q => by rw [← RX.same h1 q]; exact z)⟩
theorem Pb.pick (h : Pb w X q r S R H cs t) {m : Int} (hg : Lg S m) (hm : m ≤ 1000000) (hp : 0 < S.L.length) : Calls Try.prog 10 #[.pointer (some ⟨q, 0, none⟩)] X fun e X' => ∃ k, e = .returned (.tuple #[.int .i64 k, .bool true]) ∧ Nx S k ∧ Pb w X' q r (pkS S k) R H cs t := by
  have h0 := h
  obtain ⟨T1, T2, h1, _⟩ := h0
  refine (pick_any h1 hg hm hp).mono ?_
  rintro e X' ⟨k, rfl, hk, z⟩
  exact ⟨k, rfl, hk, h.one (fun T q => by rw [← h1.same q]; exact z)⟩
theorem Pb.rpick (h : Pb w X q r S R H cs t) {m : Int} (hg : Lg R m) (hm : m ≤ 1000000) (hp : 0 < R.L.length) : Calls Try.prog 11 #[.pointer (some ⟨r, 0, none⟩)] X fun e X' => ∃ k, e = .returned (.tuple #[.int .i64 k, .bool true]) ∧ Nx R k ∧ Pb w X' q r S (pkS R k) H cs t := by
  have h0 := h
  obtain ⟨T1, T2, _, h1, _⟩ := h0
  refine (rpick_any h1 hg hm hp).mono ?_
  rintro e X' ⟨k, rfl, hk, z⟩
  exact ⟨k, rfl, hk, h.two (fun T q => by rw [← RX.same h1 q]; exact z)⟩
end

end Go.Proofs.Ytcmomebjkbhboaa
