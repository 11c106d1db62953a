/-
  Contract of the document's Order. Conditions: that the object lies in memory as RX says, beside a turn (Rl).
-/
import Derived.Test.YteiangakgfekgaaTuRVic
namespace Go.Proofs.Yteiangakgfekgaa
open Go.RowKit Plain
set_option linter.unusedVariables false

/-- the copy that is made: of the first keys. -/
def Cp (w wr : World) (b : Nat) (L : List RK) : Prop := ∃ T, RX w wr b T ⟨0, 0, L, 0⟩ ∧ Kp w wr
theorem Cp.kp {w wr w' : World} {b : Nat} {L : List RK} (h : Cp w wr b L) (k : Kp wr w') : Cp w w' b L := by
  obtain ⟨T, h1, h2⟩ := h
  exact ⟨T, h1.kept k, h2.trans k⟩
theorem Cp.nz {w wr w' : World} {b : Nat} {L L' : List RK} (h : Cp w wr b L) (z : ∀ T, RX w wr b T ⟨0, 0, L, 0⟩ → Nz RX w wr w' b T ⟨0, 0, L', 0⟩) : Cp w w' b L' := by
  obtain ⟨T, h1, h2⟩ := h
  obtain ⟨T', q1, q2, q3⟩ := z T h1
  exact ⟨T', q1, Sp.kp h2 q2 (OL.rx.new h1)⟩
/-- one key appended to the copy, as the walk meets it. -/
theorem Cp.push {w wr : World} {b : Nat} {L : List RK} (h : Cp w wr b L) (hl : L.length ≤ 64) (x : RK) (ty : TypeId) : ∃ p n c p' n' c' w4, n = L.length ∧ n ≤ c ∧ c ≤ 9223372036854775807 ∧ wr.cell? ⟨b, 2, none⟩ = some (.slice p n c) ∧
    (Builtin.append_ #[61, 61] ty #[.slice p n c, .slice (some ⟨wr.heap.size, 0, none⟩) 1 1]).run Try.prog (wr.drew.alloc (.cells #[.int .i64 x.n, .bool x.d, .bool x.p, .int .i64 x.w] 69)) = .ok (.slice p' n' c') w4 ∧
    w4.cell? ⟨b, 2, none⟩ = some (.slice p n c) ∧ w4.frozen? ⟨b, 2, none⟩ = false ∧ Cp w (w4.setCell ⟨b, 2, none⟩ (.slice p' n' c')) b (L ++ [x]) := by
  obtain ⟨T, ⟨v, hT, hB⟩, hK⟩ := h
  obtain ⟨p, c, hvs, q1, q2⟩ := hB.o.shape
  obtain ⟨W, hW⟩ : ∃ W, W = wr.drew.alloc (.cells #[.int .i64 x.n, .bool x.d, .bool x.p, .int .i64 x.w] 69) := ⟨_, rfl⟩
  have kW : Kp wr W := by rw [hW]; exact ((Kp.refl wr).drew).alloc _
  have hit : W.rangeAt wr.heap.size 0 (rc x) := by rw [hW]; exact lit_rk wr.drew x _ _ rfl
  have hBW := hB.kept kW
  obtain ⟨v', w4, hrun, o1, o2, o3⟩ := run_append_rk (w := W) ty w.heap.size v L hBW.o x wr.heap.size hit (by omega) hBW.sz
  obtain ⟨p', n', c', rfl⟩ := o1.slc
  have s4 := grown_sp o2
  obtain ⟨i1, i2, i3⟩ := hBW.setL s4 o1 (o3.elim .inl (fun h => .inr (fun N hN => by rw [h] at hN; cases hN; exact Nat.le_refl _)))
  have hh1 := (s4.block b (heap_lt hBW.h) (fun e => hBW.va (by simpa using e))).trans hBW.h
  have d0 : w4.cell? ⟨b, 2, none⟩ = some v := cell_of hh1 2
  have f0 := frozen_of hh1 2
  have c2 := hB.cells.2.2.1
  have hnew := OL.rx.new ⟨v, rfl, hBW⟩
  rw [hvs] at c2 d0 hrun
  rw [hW] at hrun
  exact ⟨p, _, c, p', n', c', w4, rfl, q1, q2, c2, hrun, d0, f0, _, ⟨_, rfl, i1⟩, Sp.kp (hK.trans kW) i2 hnew⟩
def slen : Value → Nat
  | .slice _ n _ => n
  | _ => 0
/-- the keys that are left, and what is told so far. -/
structure Lf (w wr : World) (b : Nat) (q : Value) (l : List Int) : Prop where
  h : ∃ (L PL DL : List RK) (out : List Int) (T : List Nat), RX w wr b T ⟨0, 0, L, 0⟩ ∧ Sd L PL DL ∧ OwnI wr w.heap.size q out ∧ out ++ (PL ++ DL).map RK.n = l ∧ (∀ g, q.ownBlock = some g → g ∉ T) ∧ Kp w wr
theorem append_num_block {v v' : Value} {w : World} (h : v'.ownBlock = v.ownBlock ∨ v'.ownBlock = some w.heap.size) : ∀ g, v'.ownBlock = some g → v.ownBlock = some g ∨ g = w.heap.size := fun g hg => by
  rcases h with h | h
  · exact .inl (by rw [← h]; exact hg)
  · rw [h] at hg; exact .inr (Option.some.inj hg).symm
theorem own_slen {w : World} {base : Nat} {v : Value} {l : List Int} (h : OwnI w base v l) : slen v = l.length := by
  obtain ⟨p, c, rfl⟩ := h.shape
  rfl
/-- one round: a key told, and dropped. -/
theorem lf_step {w w5 : World} {b j : Nat} {T : List Nat} {L PL DL : List RK} {q : Value} {out lS : List Int} {x : RK} (hX : RX w w5 b T ⟨0, 0, L, 0⟩) (hSd : Sd L PL DL) (hO : OwnI w5 w.heap.size q out) (hqT : ∀ g, q.ownBlock = some g → g ∉ T) (hK : Kp w w5) (hj : j < L.length) (hjx : L.getD j rk0 = x) (hL : L.length ≤ 64)
    (hrest : ∀ PL' DL' : List RK, PL'.map RK.n = (PL.map RK.n).erase x.n → DL'.map RK.n = (DL.map RK.n).erase x.n → (out ++ [x.n]) ++ (PL' ++ DL').map RK.n = lS) :
    ∃ gb n2 cc, n2 = L.length ∧ n2 ≤ cc ∧ cc ≤ 9223372036854775807 ∧ w5.cell? ⟨b, 2, none⟩ = some (.slice (some ⟨gb, 0, none⟩) n2 cc) ∧ w5.cell? ⟨gb, j * 4, none⟩ = some (.int .i64 x.n) ∧ ∀ q' w8, OwnI w8 w.heap.size q' (out ++ [x.n]) → (w5.alloc (.cells #[.int .i64 x.n] 3)).grownBy w8 q.ownBlock → (q'.ownBlock = q.ownBlock ∨ q'.ownBlock = some (w5.alloc (.cells #[.int .i64 x.n] 3)).heap.size) →
      w8.cell? ⟨b, 2, none⟩ = some (.slice (some ⟨gb, 0, none⟩) n2 cc) ∧ w8.cell? ⟨gb, j * 4, none⟩ = some (.int .i64 x.n) ∧ Calls Try.prog 18 #[.pointer (some ⟨b, 0, none⟩), .int .i64 x.n] w8 fun e w' => e = .returned (.bool true) ∧ Lf w w' b q' lS := by
  have e0 := rk_at hj
  rw [hjx] at e0
  have hoff := hSd.off e0
  obtain ⟨PL', DL', hSd', f1, f2⟩ := hSd.out e0
  have hr := hrest PL' DL' f1 f2
  have hX0 := hX
  obtain ⟨v, hT, hB⟩ := hX
  obtain ⟨_, _, c2, _, _⟩ := hB.cells
  obtain ⟨p, cc, rfl, q1, q2⟩ := hB.o.shape
  obtain ⟨_, gb, hp, hob, hcs, _⟩ := hB.o.cells
  obtain rfl := hp (Nat.lt_of_le_of_lt (Nat.zero_le _) hj)
  have d0 := (hcs j hj).1
  rw [show (⟨0, 0, L, 0⟩ : RS).L.getD j rk0 = x from hjx] at d0
  refine ⟨gb, _, cc, rfl, q1, q2, c2, d0, fun q' w8 ho2 hg2 hr2 => ?_⟩
  have kA : Kp w5 (w5.alloc (.cells #[.int .i64 x.n] 3)) := (Kp.refl _).alloc _
  have hsp : Sp q.ownBlock.toList w5 w8 := (kA.sp _).trans (grown_sp hg2)
  have hnT : ∀ t ∈ T, t ∉ q.ownBlock.toList := fun t ht e => hqT t (by simpa using e) ht
  have hX8 := OL.rx.sp hX0 hsp hnT
  have hbT : b ∈ T := by rw [hT]; simp
  have hgT : gb ∈ T := by rw [hT]; simp [Value.ownBlock]
  refine ⟨hsp.held c2 (hnT b hbT), hsp.held d0 (hnT gb hgT), ?_⟩
  refine (rdrop_raw hX8 hL x.n e0 rfl (fun y hy e => hoff (List.mem_map.2 ⟨y, List.mem_append_left _ hy, e⟩))).mono ?_
  rintro e w' ⟨rfl, T7, z1, z2, z3⟩
  refine ⟨rfl, ⟨_, PL', DL', _, T7, z1, hSd', ?_, hr, ?_, ?_⟩⟩
  · refine ho2.sp z2 (fun g hg e => ?_)
    rcases hr2 with h | h
    · exact hqT g (by rw [← h]; exact hg) e
    · rw [h] at hg
      have h1 := Option.some.inj hg
      have h2 := OL.rx.low hX0 g e
      have h3 := kA.size
      omega
  · intro g hg e
    rcases z3 g e with h | h
    · rcases hr2 with h' | h'
      · exact hqT g (by rw [← h']; exact hg) h
      · rw [h'] at hg
        have h1 := Option.some.inj hg
        have h2 := OL.rx.low hX0 g h
        have h3 := kA.size
        omega
    · have := (ho2.lt g hg).2
      omega
  · have hK8 : Kp w w8 := Sp.kp hK hsp (fun t ht => (hO.lt t (by simpa using ht)).1)
    exact Sp.kp hK8 z2 (OL.rx.new hX8)
set_option maxRecDepth 100000 in
set_option maxHeartbeats 8000000 in
theorem rorder_any {w0 w : World} {a : Nat} {T : List Nat} {S : TS} {R : RS} (h : RX w0 w a T R) (hr : Rl S R) (hg : Gd S) : Calls Try.prog 34 #[.pointer (some ⟨a, 0, none⟩)] w fun e w' => ∃ v, e = .returned v ∧ OwnI w' w.heap.size v (S.P ++ S.D) ∧ Kp w w' := by
  have hlen := hr.len
  have hl : R.L.length ≤ 64 := by have := hg.len; have := hg.m2; omega
  obtain ⟨PL, DL, hSd, hP, hD⟩ := hr.h
  obtain ⟨v, hT, hB⟩ := h
  obtain ⟨_, _, c2, _, _⟩ := hB.cells
  obtain ⟨p, c, rfl, q1, q2⟩ := hB.o.shape
  obtain ⟨_, g, hp, _, hcs, _⟩ := hB.o.cells
  obtain ⟨l, hL⟩ : ∃ l, l = R.L := ⟨_, rfl⟩
  rw [← hL] at c2 q1 hp hcs hl hSd
  obtain ⟨n, hn⟩ : ∃ n, n = l.length := ⟨_, rfl⟩
  rw [← hn] at c2 q1 hp hcs hl
  have HC := hid hcs
  have HP := hid hp
  have HA := hid c2
  have HN := hid hn
  have HS := hid (And.intro hSd (And.intro hP hD))
  obtain ⟨U, hU⟩ : ∃ U, U = w.alloc (.cells #[.int .i64 0, .int .i64 0, .slice none 0 0, .int .i64 0] 63) := ⟨_, rfl⟩
  obtain ⟨b, hb⟩ : ∃ b, b = w.heap.size := ⟨_, rfl⟩
  have kU : Kp w U := by rw [hU]; exact (Kp.refl w).alloc _
  have hUb : U.heap[b]? = some (.cells #[.int .i64 0, .int .i64 0, .slice none 0 0, .int .i64 0] 63 (0, 0)) := by rw [hU, hb]; exact new_obj _ _ _
  have H0 : Hid (Cp w U b (l.take 0)) := ⟨[b], ⟨.slice none 0 0, rfl, ⟨hUb, by simpa using OwR.nil U w.heap.size, by omega, by simp [Value.ownBlock], kU.size⟩⟩, kU⟩
  have HU : Hid (U = w.alloc (.cells #[.int .i64 0, .int .i64 0, .slice none 0 0, .int .i64 0] 63) ∧ b = w.heap.size) := ⟨hU, hb⟩
  have mixed : Try.prog.follows .mixedOrders = true := by kernel_rfl
  clear hr hg hlen hSd hP hD hT hB hp hcs hL hn hU hb kU hUb
  go_enter Try.func34, Try.ntmps34
  go_upto_region 2 with fail
  rw [← HU.out.1, ← HU.out.2]
  clear HU c2
  go_wp2_with fail
  go_loopw [4] (fun q wr => ∃ i : Nat, q = .int .i64 i ∧ i ≤ n ∧ Hid (Cp w wr b (l.take i))) (fun q _ => n - (intOf q).toNat)
  case atStart => exact ⟨0, rfl, by omega, H0⟩
  case round =>
    clear H0
    obtain ⟨i, rfl, hi, HQ⟩ := hrel
    rename World => wr
    have hKr : Kp w wr := by obtain ⟨_, _, h⟩ := HQ.out; exact h
    have c2 := hKr.held HA.out
    by_cases hin : i < n
    · obtain rfl := HP.out (by omega)
      have hin2 : (i : Int) < (n : Int) := by omega
      have hil : i < l.length := by have := HN.out; omega
      obtain ⟨d0, d1, d2, d3⟩ := HC.out i hin
      have d0 := hKr.held d0
      have d1 := hKr.held d1
      have d2 := hKr.held d2
      have d3 := hKr.held d3
      obtain ⟨x, hx⟩ : ∃ x, x = l.getD i rk0 := ⟨_, rfl⟩
      rw [← hx] at d0 d1 d2 d3
      obtain ⟨p2, n2, c2', p', n', c', w4, e1, e2, e3, cb, hrun, f1, f2, hcp⟩ := HQ.out.push (by rw [List.length_take]; omega) x 61
      have HQ2 : Hid (Cp w ((w4.setCell ⟨b, 2, none⟩ (.slice p' n' c'))) b (l.take (i + 1))) := by
        show Cp w _ b (l.take (i + 1))
        rw [rk_take hil, ← hx]
        exact hcp
      have hn2 : n2 ≤ 64 := by rw [e1, List.length_take]; omega
      have k1 : Kp wr (wr.drew.alloc (.cells #[.int .i64 x.n, .bool x.d, .bool x.p, .int .i64 x.w] 69)) := ((Kp.refl wr).drew).alloc _
      have k2 : Kp wr (wr.alloc (.cells #[.int .i64 x.n, .bool x.d, .bool x.p, .int .i64 x.w] 69)) := (Kp.refl wr).alloc _
      have c2d := k1.held c2
      have c2e := k2.held c2
      have cbd := k1.held cb
      have cbe := k2.held cb
      have d0d := k1.held d0
      have d1d := k1.held d1
      have d2d := k1.held d2
      have d3d := k1.held d3
      clear hx hcp e1 hKr HQ hil k1 k2
      go_wp2_with fail
      go_region_law (refine step_append_run rfl _ _ 61 rfl _ _ rfl rfl hrun ?_)
      all_goals
        clear hrun c2d c2e cbd cbe d0d d1d d2d d3d f1 f2 d0 d1 d2 d3
        go_wp2
        go_roundw
        case rel => exact ⟨i + 1, by go_num, by omega, HQ2⟩
        case measure => simp [intOf]; omega
    · obtain rfl : i = n := by omega
      have HLS : Hid ((S.P ++ S.D).length ≤ 64) := by
        show (S.P ++ S.D).length ≤ 64
        rw [← HS.out.2.1, ← HS.out.2.2, ← List.map_append, List.length_map, HS.out.1.pm.length_eq, ← HN.out]
        exact hl
      have H1 : Hid (Lf w wr b (.slice none 0 0) (S.P ++ S.D)) := by
        obtain ⟨T1, x1, x2⟩ := HQ.out
        rw [List.take_of_length_le (by have := HN.out; omega)] at x1
        exact ⟨l, PL, DL, [], T1, x1, HS.out.1, OwnI.nil _ _, by rw [List.map_append, HS.out.2.1, HS.out.2.2]; rfl, fun g hg => by simp [Value.ownBlock] at hg, x2⟩
      clear HQ hKr
      go_wp2_with fail
      go_loopw [5, 6] (fun q _ wx => ∃ q', q' = q ∧ Hid (Lf w wx b q' (S.P ++ S.D))) (fun q _ _ => 65 - slen q)
      case atStart => exact ⟨_, rfl, H1⟩
      case round =>
        clear H1
        obtain ⟨q, rfl, HQ⟩ := hrel
        rename World => wx
        obtain ⟨L, PL, DL, out, T, hX, hSd, hO, hrest, hqT, hK⟩ := HQ.out.h
        have hX0 := hX
        obtain ⟨v, hT, hB⟩ := hX
        obtain ⟨_, _, c2x, _, _⟩ := hB.cells
        obtain ⟨pb, cb, rfl, _, _⟩ := hB.o.shape
        obtain ⟨nb, hnb⟩ : ∃ n, n = L.length := ⟨_, rfl⟩
        have c2 : wx.cell? ⟨b, 2, none⟩ = some (.slice pb nb cb) := by rw [hnb]; exact c2x
        clear c2x
        have hL64 : L.length ≤ 64 := by
          have h1 := congrArg List.length hrest
          rw [List.length_append, List.length_map, hSd.pm.length_eq] at h1
          have := HLS.out
          omega
        by_cases h0 : nb = 0
        · subst h0
          have hL0 : L = [] := List.eq_nil_of_length_eq_zero hnb.symm
          subst hL0
          have hPD : PL ++ DL = [] := hSd.pm.eq_nil
          rw [hPD] at hrest
          have HE : Hid (OwnI wx w.heap.size q (S.P ++ S.D) ∧ Kp w wx) := ⟨by rw [← hrest]; simpa using hO, hK⟩
          clear hX0 hT hB hSd hO hrest hqT hK hPD HQ hnb
          go_wp2
          go_ret
          exact ⟨_, rfl, HE.out.1, HE.out.2⟩
        · have hnb2 : decide ((0 : Int) < (nb : Int)) = true := by simp; omega
          have hnb3 : (0 : Int) < (nb : Int) := by omega
          have hF := rfirst_any hX0 (by show L.length ≤ 1000; omega) false false
          have HQ4 := hid (And.intro hX0 (And.intro hSd (And.intro hO (And.intro hrest (And.intro hqT (And.intro hK (And.intro hL64 hnb)))))))
          clear hX0 hT hB hSd hO hrest hqT hK HQ hnb hL64
          go_wp2_with fail
          refine hF.mono ?_; rintro e w4 ⟨z, rfl, hz, k4⟩
          clear hF c2
          have hSd := HQ4.out.2.1
          have hL64 := HQ4.out.2.2.2.2.2.2.1
          have hnb := HQ4.out.2.2.2.2.2.2.2
          cases PL with
          | cons x r =>
            obtain ⟨j, rfl, hj, hjx⟩ := bst_get hSd hz (dr := false) (A := []) (B := r) (x := x) rfl (by simp) (by unfold okB; rw [hSd.fp x (by simp)]; rfl)
            have HQ5 := hid (And.intro (HQ4.out.1.kept k4) (And.intro hSd (And.intro (HQ4.out.2.2.1.kept k4) (And.intro HQ4.out.2.2.2.1 (And.intro HQ4.out.2.2.2.2.1 (HQ4.out.2.2.2.2.2.1.trans k4))))))
            have hst0 := lf_step (lS := S.P ++ S.D) HQ5.out.1 hSd HQ5.out.2.2.1 HQ5.out.2.2.2.2.1 HQ5.out.2.2.2.2.2 hj hjx hL64 (fun PL' DL' g1 g2 => by
              have hnd := (hSd.pm.map RK.n).nodup_iff.2 hSd.nd
              rw [List.map_append, List.nodup_append] at hnd
              rw [List.map_cons, List.erase_cons_head] at g1
              rw [erase_out (fun hm => hnd.2.2 x.n (by simp) x.n hm rfl)] at g2
              rw [← HQ5.out.2.2.2.1, List.map_append, g1, g2]
              simp)
            clear k4 HQ4
            have hl6 : slen q = out.length := own_slen HQ5.out.2.2.1
            have hout : out.length ≤ 64 := by have := congrArg List.length HQ5.out.2.2.2.1; rw [List.length_append] at this; have := HLS.out; omega
            have HSL := hid (And.intro hl6 hout)
            obtain ⟨gb, n2, cc, t1, t2, t3, c2, d0, hst⟩ := hst0
            have HT := hid (And.intro hst (And.intro HQ5.out.2.2.1 HQ5.out.2.2.2.2.2))
            have hj3 : (j : Int) < (n2 : Int) := by omega
            have hj4 : decide ((j : Int) < 0) = false := by simp
            have hn2b : n2 ≤ 64 := by omega
            clear hst hl6 hout hSd hz hj hjx t1
            go_wp2_with (at_builtin; refine wpList_append_nums rfl _ _ 34 rfl Try.underlying34 w.heap.size _ out rfl (HT.out.2.1.kept ((Kp.refl _).alloc _)) _ [x.n] rfl (InI.one _ x.n _ _ rfl) ?c1 ?c2 ?_; rotate_left; rotate_left; intro q' w8 ho2 hg2 hr2; obtain ⟨c28, d08, hDr⟩ := HT.out.1 q' w8 ho2 hg2 hr2; have HO2 := hid ho2; clear ho2 hg2 hr2)
            case c1 => have := HSL.out.2; simp; omega
            case c2 => have := HT.out.2.2.size; simp; omega
            refine hDr.mono ?_; rintro e w9 ⟨rfl, hlf⟩
            have HE : Hid (Lf w w9 b q' (S.P ++ S.D) ∧ 65 - slen q' < 65 - slen q) := ⟨hlf, by rw [own_slen HO2.out, HSL.out.1]; have := HSL.out.2; simp; omega⟩
            clear hDr hlf HO2 HT HSL c28 d08
            go_wp2
            go_roundw
            case rel => exact ⟨q', rfl, HE.out.1⟩
            case measure => exact HE.out.2
          | nil =>
            obtain rfl := bst_none hSd hz (by intro a ha; cases ha)
            have hF := rfirst_any (HQ4.out.1.kept k4) (by show L.length ≤ 1000; omega) true false
            have K4 := hid k4
            clear hz k4
            go_wp2_with fail
            refine hF.mono ?_; rintro e w5 ⟨z, rfl, hz, k5⟩
            have k4 := K4.out.trans k5
            clear hF K4
            obtain ⟨x, r, hDL⟩ : ∃ x r, DL = x :: r := by
              cases DL with
              | nil =>
                have := hSd.pm.length_eq
                simp at this
                omega
              | cons x r => exact ⟨x, r, rfl⟩
            subst hDL
            obtain ⟨j, rfl, hj, hjx⟩ := bst_get hSd hz (dr := true) (A := []) (B := r) (x := x) rfl (by simp) (by unfold okB; rw [hSd.fd x (by simp)]; rfl)
            have HQ5 := hid (And.intro (HQ4.out.1.kept k4) (And.intro hSd (And.intro (HQ4.out.2.2.1.kept k4) (And.intro HQ4.out.2.2.2.1 (And.intro HQ4.out.2.2.2.2.1 (HQ4.out.2.2.2.2.2.1.trans k4))))))
            have hst0 := lf_step (lS := S.P ++ S.D) HQ5.out.1 hSd HQ5.out.2.2.1 HQ5.out.2.2.2.2.1 HQ5.out.2.2.2.2.2 hj hjx hL64 (fun PL' DL' g1 g2 => by
              rw [List.map_cons, List.erase_cons_head] at g2
              have g1' : PL'.map RK.n = [] := by rw [g1]; rfl
              rw [← HQ5.out.2.2.2.1, List.map_append, g1', g2]
              simp)
            clear k4 HQ4
            have hl6 : slen q = out.length := own_slen HQ5.out.2.2.1
            have hout : out.length ≤ 64 := by have := congrArg List.length HQ5.out.2.2.2.1; rw [List.length_append] at this; have := HLS.out; omega
            have HSL := hid (And.intro hl6 hout)
            obtain ⟨gb, n2, cc, t1, t2, t3, c2, d0, hst⟩ := hst0
            have HT := hid (And.intro hst (And.intro HQ5.out.2.2.1 HQ5.out.2.2.2.2.2))
            have hj3 : (j : Int) < (n2 : Int) := by omega
            have hj4 : decide ((j : Int) < 0) = false := by simp
            have hn2b : n2 ≤ 64 := by omega
            clear hst hl6 hout hSd hz hj hjx t1
            go_wp2_with (at_builtin; refine wpList_append_nums rfl _ _ 34 rfl Try.underlying34 w.heap.size _ out rfl (HT.out.2.1.kept ((Kp.refl _).alloc _)) _ [x.n] rfl (InI.one _ x.n _ _ rfl) ?c1 ?c2 ?_; rotate_left; rotate_left; intro q' w8 ho2 hg2 hr2; obtain ⟨c28, d08, hDr⟩ := HT.out.1 q' w8 ho2 hg2 hr2; have HO2 := hid ho2; clear ho2 hg2 hr2)
            case c1 => have := HSL.out.2; simp; omega
            case c2 => have := HT.out.2.2.size; simp; omega
            refine hDr.mono ?_; rintro e w9 ⟨rfl, hlf⟩
            have HE : Hid (Lf w w9 b q' (S.P ++ S.D) ∧ 65 - slen q' < 65 - slen q) := ⟨hlf, by rw [own_slen HO2.out, HSL.out.1]; have := HSL.out.2; simp; omega⟩
            clear hDr hlf HO2 HT HSL c28 d08
            go_wp2
            go_roundw
            case rel => exact ⟨q', rfl, HE.out.1⟩
            case measure => exact HE.out.2

end Go.Proofs.Yteiangakgfekgaa
