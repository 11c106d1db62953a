/-
  Contracts of the document's Pick and Drop. Conditions: that the object lies in memory as RX says.
-/
import Derived.Test.YtcmomebjkbhboaaLfRBet
import Derived.Deep.RegionWith
namespace Go.Proofs.Ytcmomebjkbhboaa
open Go.RowKit Plain
set_option linter.unusedVariables false

theorem OwnI.num {w : World} {base n cap : Nat} {p : Option Addr} {l : List Int} (h : OwnI w base (.slice p n cap) l) : n = l.length := by
  obtain ⟨_, _, _, e, _⟩ := h.ints
  simp at e
  exact e.2.1
theorem OwnI.set {w : World} {base g n cap : Nat} {l : List Int} (h : OwnI w base (.slice (some ⟨g, 0, none⟩) n cap) l) (j : Nat) (x : Int) : OwnI (w.setCell ⟨g, j, none⟩ (.int .i64 x)) base (.slice (some ⟨g, 0, none⟩) n cap) (l.set j x) := by
  obtain rfl := h.num
  have h1 := (World.ownsRow.stored h j (.int .i64 x)).1
  unfold OwnI
  rw [List.length_set]
  have e : nv (l.set j x) = (nv l).set j (.int .i64 x) := by unfold nv; rw [List.map_set]
  rw [e]
  exact h1
theorem RL.wait {w0 w : World} {a : Nat} {T : List Nat} {g h : Int} {lk lw : List Int} (H : RL w0 w a T g h lk lw) {gw nw cw : Nat} (hv : w.cell? ⟨a, 3, none⟩ = some (.slice (some ⟨gw, 0, none⟩) nw cw)) (i : Nat) (x : Int) : RL w0 (w.setCell ⟨gw, i, none⟩ (.int .i64 x)) a T g h lk (lw.set i x) ∧ Sp T w (w.setCell ⟨gw, i, none⟩ (.int .i64 x)) := by
  obtain ⟨vk, vw, rfl, h1, h2, h3, h4, h5, h6, h7, h8⟩ := H
  have c0 := cell_of h1 3
  rw [hv] at c0
  obtain rfl : Value.slice (some ⟨gw, 0, none⟩) nw cw = vw := by simpa using c0
  have k : Sp [gw] w (w.setCell ⟨gw, i, none⟩ (.int .i64 x)) := (Sp.refl _ _).set gw _ (by simp) _
  have hag : a ≠ gw := fun e => h6 (by rw [e]; rfl)
  refine ⟨⟨vk, _, rfl, (k.block a (heap_lt h1) (by simpa using hag)).trans h1, h2, h3.spx k (fun q hq e => h7 q hq (by simp at e; rw [e]; rfl)), h4.set i x, h5, h6, h7, Nat.le_trans h8 k.size⟩, k.mono (fun t ht => by simp at ht; subst ht; simp [Value.ownBlock])⟩
theorem RL.frozenW {w0 w : World} {a : Nat} {T : List Nat} {g h : Int} {lk lw : List Int} (H : RL w0 w a T g h lk lw) {gw nw cw : Nat} (hv : w.cell? ⟨a, 3, none⟩ = some (.slice (some ⟨gw, 0, none⟩) nw cw)) (i : Nat) : w.frozen? ⟨gw, i, none⟩ = false := by
  obtain ⟨vk, vw, rfl, h1, h2, h3, h4, h5, h6, h7, h8⟩ := H
  have c0 := cell_of h1 3
  rw [hv] at c0
  obtain rfl : Value.slice (some ⟨gw, 0, none⟩) nw cw = vw := by simpa using c0
  obtain rfl := h4.num
  exact World.ownsRow.frozenAt h4 i
theorem RL.head {w0 w : World} {a : Nat} {T : List Nat} {g h : Int} {lk lw : List Int} (H : RL w0 w a T g h lk lw) (c : Int) : RL w0 (w.setCell ⟨a, 1, none⟩ (.int .i64 c)) a T g c lk lw ∧ Sp T w (w.setCell ⟨a, 1, none⟩ (.int .i64 c)) := by
  obtain ⟨vk, vw, rfl, h1, h2, h3, h4, h5, h6, h7, h8⟩ := H
  have k : Sp [a] w (w.setCell ⟨a, 1, none⟩ (.int .i64 c)) := (Sp.refl _ _).set a _ (by simp) _
  exact ⟨⟨vk, vw, rfl, heap_set h1 1 _, h2, h3.spx k (fun q hq e => h5 (by simp at e; rw [← e]; exact hq)), h4.spx k (fun q hq e => h6 (by simp at e; rw [← e]; exact hq)), h5, h6, h7, Nat.le_trans h8 k.size⟩, k.mono (fun t ht => by simp at ht; subst ht; simp)⟩
theorem up_k (l : List Wt) (i : Nat) : (upL l i).map Wt.k = l.map Wt.k := by
  unfold upL
  rw [List.map_append, List.map_map, show (Wt.k ∘ incW) = Wt.k from rfl, ← List.map_append, List.take_append_drop]
theorem up_n {l : List Wt} {i : Nat} (h : i < l.length) : ((upL l i).map Wt.n).set i ((l.getD i wz).n + 1) = (upL l (i + 1)).map Wt.n := by
  have hl : (((l.take i).map incW).map Wt.n).length = i := by rw [List.length_map, List.length_map, List.length_take]; omega
  rw [up_at h, up_next h, List.map_append, List.map_append, List.map_cons, List.map_cons, List.set_append_right _ _ (by omega), hl, Nat.sub_self]
  rfl

set_option maxRecDepth 100000 in
set_option maxHeartbeats 4000000 in
theorem rpick_none {w0 w : World} {a : Nat} {T : List Nat} {S : LS} (h : RX w0 w a T S) (h0 : S.L.length = 0) : Calls Try.prog 11 #[.pointer (some ⟨a, 0, none⟩)] w fun e w' => e = .returned (.tuple #[.int .i64 0, .bool false]) ∧ Kp w w' := by
  obtain ⟨pk, ck, pw, cw, ho, _⟩ := RL.obj h
  rw [List.length_map, h0] at ho
  have c2 : w.cell? ⟨a, 2, none⟩ = some (.slice pk 0 ck) := cell_of ho 2
  clear h ho
  go_enter Try.func11, Try.ntmps11
  go_wp2
  go_ret2
  exact ⟨rfl, Kp.refl w⟩
set_option maxRecDepth 100000 in
set_option maxHeartbeats 4000000 in
theorem rpick_any {w0 w : World} {a : Nat} {T : List Nat} {S : LS} {m : Int} (h : RX w0 w a T S) (hg : Lg S m) (hm : m ≤ 1000000) (h0 : 0 < S.L.length) : Calls Try.prog 11 #[.pointer (some ⟨a, 0, none⟩)] w fun e w' => ∃ k, e = .returned (.tuple #[.int .i64 k, .bool true]) ∧ Nx S k ∧ Nz RX w0 w w' a T (pkS S k) := by
  obtain ⟨pk, gk, ck, pw, gw, cw, hpk, _, hk1, hk2, _, _, _, _, c2, _, _, hck, _⟩ := RL.cells h
  rw [List.length_map] at hpk hk1 c2 hck
  obtain rfl := hpk h0
  have HX := hid (And.intro h hg)
  have hl := hg.l
  obtain ⟨n, hn⟩ : ∃ n, n = S.L.length := ⟨_, rfl⟩
  have HN := hid hn
  rw [← hn] at hk1 c2 hck h0 hl
  have HC : Hid (∀ j, j < n → w.cell? ⟨gk, j, none⟩ = some (.int .i64 (S.L.getD j wz).k)) := fun j hj => by rw [hck j hj, map_k_at _ _ (by omega)]
  have hne : ((n : Int) == 0) = false := by simp; omega
  have HA := hid c2
  have H0 : Hid (Bs S 1 0 ∧ Kp w w) := ⟨bs_one S, Kp.refl w⟩
  clear h hg hck hn hpk
  go_enter Try.func11, Try.ntmps11
  go_wp2
  clear c2
  go_loopw [4, 5, 6] (fun be x _ wr => ∃ i b : Nat, x = .int .i64 i ∧ be = .int .i64 b ∧ 1 ≤ i ∧ i ≤ n ∧ Hid (Bs S i b ∧ Kp w wr)) (fun _ x _ _ => n - (intOf x).toNat)
  case atStart => exact ⟨1, 0, rfl, rfl, by omega, by omega, H0⟩
  case round =>
    clear H0
    obtain ⟨i, b, rfl, rfl, hi1, hin, HB⟩ := hrel
    have c2 := HB.out.2.held HA.out
    by_cases hlt : i < n
    · have hlt2 : (i : Int) < (n : Int) := by omega
      have hBt := better_any (HX.out.1.kept HB.out.2) HX.out.2.l (i := i) (j := b) (by have := HN.out; omega) (by have := HN.out; have := HB.out.1.1; omega)
      have HNx := hid (bs_next HB.out.1)
      obtain ⟨q, hq⟩ : ∃ q, q = bt S.g S.h i (S.L.getD i wz) b (S.L.getD b wz) := ⟨_, rfl⟩
      rw [← hq] at hBt HNx
      have HK := hid HB.out.2
      clear hq HB
      go_wp2_with fail
      refine hBt.mono ?_; rintro e w1 ⟨rfl, k1⟩
      have HK1 := hid (HK.out.trans k1)
      clear hBt k1 HK c2
      cases q with
      | true =>
        have HE : Hid (Bs S (i + 1) i ∧ Kp w w1) := ⟨by have := HNx.out; rwa [if_pos rfl] at this, HK1.out⟩
        clear HNx HK1
        go_wp2
        go_roundw
        case rel => exact ⟨i + 1, i, by go_num, rfl, by omega, by omega, HE⟩
        case measure => simp [intOf]; omega
      | false =>
        have HE : Hid (Bs S (i + 1) b ∧ Kp w w1) := ⟨by have := HNx.out; rwa [if_neg (by decide)] at this, HK1.out⟩
        clear HNx HK1
        go_wp2
        go_roundw
        case rel => exact ⟨i + 1, b, by go_num, rfl, by omega, by omega, HE⟩
        case measure => simp [intOf]; omega
    · obtain rfl : i = n := by omega
      have hbn : b < i := HB.out.1.1
      have hbn2 : (b : Int) < (i : Int) := by omega
      have d0 := HB.out.2.held (HC.out b hbn)
      have hbl : b < S.L.length := by have := HN.out; omega
      have hnx := bs_nx HX.out.2 (by have := HB.out.1; rwa [HN.out] at this)
      obtain ⟨e1, e2⟩ := bs_dl HX.out.2.nd hbl
      have hO := rout_any (HX.out.1.kept HB.out.2) (by rw [List.length_map, List.length_map]) (by rw [List.length_map]; exact HX.out.2.l) b
      rw [e1, e2] at hO
      obtain ⟨k, hk⟩ : ∃ k, k = (S.L.getD b wz).k := ⟨_, rfl⟩
      rw [← hk] at d0 hnx hO
      have hkr : 0 ≤ k ∧ k < 1099511627776 := by obtain ⟨y, hy, ey⟩ := hnx.1; rw [← ey]; exact HX.out.2.r y hy
      obtain ⟨hk0, hk9⟩ := hkr
      have HKK := hid (And.intro hnx HB.out.2)
      clear hk e1 e2 hnx HB hbl
      go_wp2_with fail
      refine hO.mono ?_; rintro e w3 ⟨⟨vv, rfl⟩, T3, r3, s3, n3⟩
      have hg3 := HX.out.2.drop k
      obtain ⟨l, hll⟩ : ∃ l, l = dlL S.L k := ⟨_, rfl⟩
      rw [← hll] at r3 hg3
      obtain ⟨nn, hnn⟩ : ∃ nn, nn = l.length := ⟨_, rfl⟩
      have hn256 : nn ≤ 256 := by rw [hnn]; exact hg3.len
      have HR : Hid (RX w0 w3 a T3 ⟨upL l 0, S.g, S.h⟩ ∧ Sp T3 w3 w3) := ⟨by rw [up_zero]; exact r3, Sp.refl _ _⟩
      have HG : Hid (Lg ⟨l, S.g, S.h⟩ m ∧ nn = l.length ∧ l = dlL S.L k) := ⟨hg3, hnn, hll⟩
      have H3 := hid (And.intro s3 n3)
      clear hO r3 s3 n3 hll hnn hg3 d0 c2
      go_wp2_with fail
      go_loopw [8] (fun q wr => ∃ j : Nat, q = .int .i64 j ∧ j ≤ nn ∧ Hid (RX w0 wr a T3 ⟨upL l j, S.g, S.h⟩ ∧ Sp T3 w3 wr)) (fun q _ => nn - (intOf q).toNat)
      case atStart => exact ⟨0, rfl, by omega, HR⟩
      case round =>
        clear HR
        obtain ⟨j, rfl, hj, HQ⟩ := hrel
        rename World => wo
        have hul := up_len l j
        obtain ⟨pk3, gk3, ck3, pw3, gw3, cw3, _, hpw3, _, _, hw31, hw32, _, b1, _, b3, bz, _, hcw3⟩ := RL.cells HQ.out.1
        rw [List.length_map] at hpw3 hw31 b3 hcw3
        have hul2 : ({ L := upL l j, g := S.g, h := S.h } : LS).L.length = nn := by rw [HG.out.2.1]; exact hul
        rw [hul2] at hpw3 hw31 b3 hcw3
        by_cases hjn : j < nn
        · obtain rfl := hpw3 (by omega)
          have hjl : j < l.length := by have := HG.out.2.1; omega
          have d1 := hcw3 j hjn
          rw [map_n_at _ _ (by show j < (upL l j).length; omega), show ({ L := upL l j, g := S.g, h := S.h } : LS).L.getD j wz = l.getD j wz from up_get hjl] at d1
          have fz1 := RL.frozenW HQ.out.1 b3 j
          have hw := RL.wait HQ.out.1 b3 j ((l.getD j wz).n + 1)
          have hz := HG.out.1.n (l.getD j wz) (by rw [List.getD_eq_getElem?_getD, List.getElem?_eq_getElem hjl]; exact List.getElem_mem hjl)
          rw [up_n hjl] at hw
          obtain ⟨y, hy⟩ : ∃ y, y = (l.getD j wz).n := ⟨_, rfl⟩
          rw [← hy] at d1 hw hz
          have hw2 : IntKind.i64.wrap (y + 1) = y + 1 := by rw [IntKind.wrap_i64]; omega
          have hjn2 : (j : Int) < (nn : Int) := by omega
          have HQ2 : Hid (∀ X, Kp wo X → RX w0 (X.setCell ⟨gw3, j, none⟩ (.int .i64 (y + 1))) a T3 ⟨upL l (j + 1), S.g, S.h⟩ ∧ Sp T3 w3 (X.setCell ⟨gw3, j, none⟩ (.int .i64 (y + 1)))) := fun X kX => by
            have b3' := kX.held b3
            have q := RL.wait (HQ.out.1.kept kX) b3' j (y + 1)
            have e0 : ((upL l j).map Wt.n).set j (y + 1) = (upL l (j + 1)).map Wt.n := by rw [hy]; exact up_n hjl
            refine ⟨?_, (HQ.out.2.trans (kX.sp _)).trans q.2⟩
            show RL w0 _ a T3 S.g S.h ((upL l (j + 1)).map Wt.k) ((upL l (j + 1)).map Wt.n)
            rw [← e0, up_k, ← up_k l j]
            exact q.1
          clear hw hy hul hul2 hpw3 hcw3 hz bz b1 HQ
          go_wp2_with fail
          go_region
          have hq := HQ2.out wo (Kp.refl wo)
          have HQ3 : Hid (RX w0 (wo.setCell ⟨gw3, j, none⟩ (.int .i64 (y + 1))).drew a T3 ⟨upL l (j + 1), S.g, S.h⟩ ∧ Sp T3 w3 (wo.setCell ⟨gw3, j, none⟩ (.int .i64 (y + 1))).drew) := ⟨hq.1.kept ((Kp.refl _).drew), hq.2.trans (((Kp.refl _).drew).sp _)⟩
          clear hq HQ2 d1 b3 fz1
          go_wp2
          go_roundw
          case rel => exact ⟨j + 1, by go_num, by omega, HQ3⟩
          case measure => simp [intOf]; omega
        · obtain rfl : j = nn := by omega
          have hH := RL.head HQ.out.1 (k + 1)
          have HE : Hid (RX w0 (wo.setCell ⟨a, 1, none⟩ (.int .i64 (k + 1))) a T3 (pkS S k) ∧ Sp T3 w3 (wo.setCell ⟨a, 1, none⟩ (.int .i64 (k + 1)))) := by
            refine ⟨?_, HQ.out.2.trans hH.2⟩
            have q := hH.1
            rw [HG.out.2.1, up_full, HG.out.2.2] at q
            exact q
          have b1' : wo.cell? ⟨a, 1, none⟩ = some (.int .i64 S.h) := b1
          have bz1 := bz 1
          have hw1 : IntKind.i64.wrap (k + 1) = k + 1 := by rw [IntKind.wrap_i64]; omega
          clear hH hul hul2 hpw3 hcw3 bz b1 HQ
          go_wp2
          go_ret2
          exact ⟨k, rfl, HKK.out.1, T3, HE.out.1, (HKK.out.2.sp _).trans (H3.out.1.then HE.out.2 H3.out.2), (Nw.refl w T).trans H3.out.2 HKK.out.2.size⟩
set_option maxRecDepth 100000 in
set_option maxHeartbeats 2000000 in
theorem rdrop_any {w0 w : World} {a : Nat} {T : List Nat} {S : LS} (h : RX w0 w a T S) (hl : S.L.length ≤ 1000) (hnd : Nd S.L) (b : Int) : Calls Try.prog 13 #[.pointer (some ⟨a, 0, none⟩), .int .i64 b] w fun e w' => e = .returned (.bool (hsW S.L b)) ∧ Nz RX w0 w w' a T ⟨dlL S.L b, S.g, S.h⟩ := by
  have hF := rfind_any h hl b
  have HX := hid (And.intro h (And.intro hl hnd))
  clear h hl hnd
  go_enter Try.func13, Try.ntmps13
  go_wp2_with fail
  refine hF.mono ?_; rintro e w1 ⟨z, rfl, hz, rfl⟩
  rcases hz with ⟨rfl, hno⟩ | ⟨A, y, B, e1, rfl, hy, hA⟩
  · have HR : Hid (dlL S.L b = S.L ∧ hsW S.L b = false) := ⟨dl_miss hno, (hs_not _ _).2 hno⟩
    clear hF hno
    go_wp2
    go_ret
    exact ⟨by rw [HR.out.2]; rfl, by rw [HR.out.1]; exact Nz.of OL.rx HX.out.1 (Kp.refl _)⟩
  · have hil : A.length < S.L.length := by rw [e1]; simp
    have hat : S.L.getD A.length wz = y := by rw [e1]; simp [List.getD_eq_getElem?_getD]
    obtain ⟨e2, e3⟩ := bs_dl HX.out.2.2 hil
    rw [hat, hy] at e2 e3
    have hO := rout_any HX.out.1 (by rw [List.length_map, List.length_map]) (by rw [List.length_map]; exact HX.out.2.1) A.length
    rw [e2, e3] at hO
    have HHS : Hid (hsW S.L b = true) := (hs_iff _ _).2 ⟨y, by rw [e1]; simp, hy⟩
    obtain ⟨i, hi⟩ : ∃ i, i = A.length := ⟨_, rfl⟩
    rw [← hi] at hO ⊢
    have hi0 : decide ((i : Int) < 0) = false := by simp
    clear hF e1 hy hA hil hat e2 e3 hi
    go_wp2_with fail
    refine hO.mono ?_; rintro e w3 ⟨⟨vv, rfl⟩, T3, r3, s3, n3⟩
    have HE : Hid (RX w0 w3 a T3 ⟨dlL S.L b, S.g, S.h⟩ ∧ Sp T w1 w3 ∧ Nw w1 T T3) := ⟨r3, s3, n3⟩
    clear hO r3 s3 n3
    go_wp2
    go_ret
    exact ⟨by rw [HHS.out]; rfl, T3, HE.out.1, HE.out.2.1, HE.out.2.2⟩

end Go.Proofs.Ytcmomebjkbhboaa
