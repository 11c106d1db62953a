/-
  Contracts of the document's Pin and Drop. Conditions: that the object lies in memory as RX says, beside a turn (Rl).
-/
import Derived.Test.YteiangakgfekgaaTuRCalls
namespace Go.Proofs.Yteiangakgfekgaa
open Go.RowKit Plain
set_option linter.unusedVariables false

theorem set_mid (A : List RK) (y y' : RK) (B : List RK) : (A ++ y' :: B).length = (A ++ y :: B).length := by simp
set_option maxRecDepth 100000 in
set_option maxHeartbeats 2000000 in
theorem rpin_any {w0 w : World} {a : Nat} {T : List Nat} {S : TS} {R : RS} (h : RX w0 w a T R) (hr : Rl S R) (hg : Gd S) (hc0 : 0 ≤ R.c) (k : Int) (on : Bool) : Calls Try.prog 17 #[.pointer (some ⟨a, 0, none⟩), .int .i64 k, .bool on] w fun e w' => e = .returned (.bool (inT S k)) ∧ Rz w0 w w' a T (pnS S k on) R.c := by
  have hlen := hr.len
  have hl : R.L.length ≤ 64 := by have := hg.len; have := hg.m2; omega
  have hF := rfind_any h (by omega) k
  have HH := hid (And.intro h hr)
  clear h hr hg hlen
  go_enter Try.func17, Try.ntmps17
  go_wp2_with fail
  refine hF.mono ?_; rintro e w1 ⟨z, rfl, hz, rfl⟩
  clear hF
  rcases fr_in HH.out.2 hz with ⟨rfl, hin⟩ | ⟨hz0, hin, A, y, B, e1, rfl, hy⟩
  · have HI := hid hin
    clear hz hin
    go_wp2
    go_ret
    refine ⟨by rw [HI.out]; rfl, R, ?_, hc0, by omega, Nz.refl HH.out.1⟩
    have : pnS S k on = S := by unfold pnS; rw [HI.out, if_neg (by decide)]
    rw [this]
    exact HH.out.2
  · obtain ⟨v, hT, hB⟩ := HH.out.1
    obtain ⟨_, _, c2, _, _⟩ := hB.cells
    obtain ⟨p, c, rfl, q1, q2⟩ := hB.o.shape
    obtain ⟨_, g, hp, _, hcs, hfz⟩ := hB.o.cells
    have hi : A.length < R.L.length := by rw [e1]; simp
    obtain rfl := hp (by omega)
    have d2 := (hcs A.length hi).2.2.1
    have f2 := hfz (A.length * 4 + 2) (by omega)
    have hat : R.L.getD A.length rk0 = y := by rw [e1]; simp [List.getD_eq_getElem?_getD]
    rw [hat] at d2
    obtain ⟨n, hn⟩ : ∃ n, n = R.L.length := ⟨_, rfl⟩
    obtain ⟨i, hi2⟩ : ∃ i, i = A.length := ⟨_, rfl⟩
    have q := hB.setK (l := A ++ { y with p := on } :: B) (A.length * 4 + 2) (.bool on) (by rw [e1]; exact rv_set2 A y B on) (by rw [e1]; exact set_mid A y _ B)
    have HE : Hid (inT S k = true ∧ Rl (pnS S k on) { R with L := A ++ { y with p := on } :: B } ∧ Nz RX w0 w1 (w1.setCell ⟨g, i * 4 + 2, none⟩ (.bool on)) a T { R with L := A ++ { y with p := on } :: B }) := by
      refine ⟨hin, by rw [← hy]; exact HH.out.2.pin e1 on, ?_⟩
      rw [hi2, hT]
      exact ⟨_, ⟨_, rfl, q.1⟩, q.2, Nw.refl _ _⟩
    rw [← hn] at c2 q1 hi hl
    rw [← hi2] at hi d2 f2 ⊢
    have hi3 : (i : Int) < (n : Int) := by omega
    have hi4 : decide ((i : Int) < 0) = false := by simp
    clear hz hin e1 hy hB hT hp hcs hfz hat hn hi2 q hz0
    go_wp2
    go_ret
    exact ⟨by rw [HE.out.1]; rfl, _, HE.out.2.1, hc0, Int.le_refl _, HE.out.2.2⟩

/-! ### Drop -/
theorem era_same (l : List RK) (i : Nat) : (l.take i).eraseIdx i = l.take i := List.eraseIdx_of_length_le (by rw [List.length_take]; omega)
theorem era_next {l : List RK} {i at' : Nat} (h : i < l.length) (hne : i ≠ at') : (l.take (i + 1)).eraseIdx at' = (l.take i).eraseIdx at' ++ [l.getD i rk0] := by
  have hl : (l.take i).length = i := by rw [List.length_take]; omega
  rw [rk_take h]
  by_cases hlt : at' < i
  · rw [List.eraseIdx_append_of_lt_length (by omega)]
  · rw [List.eraseIdx_append_of_length_le (by omega), List.eraseIdx_of_length_le (l := l.take i) (by omega), hl]
    congr 1
    exact List.eraseIdx_of_length_le (by simp; omega)
theorem era_at {l : List RK} {i : Nat} (h : i < l.length) : (l.take (i + 1)).eraseIdx i = (l.take i).eraseIdx i := by
  have hl : (l.take i).length = i := by rw [List.length_take]; omega
  rw [rk_take h, List.eraseIdx_append_of_length_le (by omega), hl, Nat.sub_self, era_same]
  simp
theorem era_mid (A : List RK) (y : RK) (B : List RK) : (A ++ y :: B).eraseIdx A.length = A ++ B := by
  rw [List.eraseIdx_append_of_length_le (by omega), Nat.sub_self]
  rfl
/-- a row of the call's own, new. -/
def One (w0 w : World) (p : Value) (l : List RK) : Prop := OwR w w0.heap.size p l ∧ Kp w0 w
theorem One.grow {w0 w w1 w' : World} {p p' : Value} {l l' : List RK} (h : One w0 w p l) (k : Kp w w1) (hg : w1.grownBy w' p.ownBlock) (ho : OwR w' w0.heap.size p' l') : One w0 w' p' l' :=
  ⟨ho, (h.2.trans k).grown hg (fun q hq => (h.1.lt q hq).1)⟩
set_option maxRecDepth 100000 in
theorem rdrop_no {w0 w : World} {a : Nat} {T : List Nat} {R : RS} (h : RX w0 w a T R) (hl : R.L.length ≤ 64) (k : Int) (hf : ∀ x ∈ R.L, x.n ≠ k) : Calls Try.prog 18 #[.pointer (some ⟨a, 0, none⟩), .int .i64 k] w fun e w' => e = .returned (.bool false) ∧ w' = w := by
  have hF := rfind_any h (by omega) k
  have HH := hid hf
  clear h hf
  go_enter Try.func18, Try.ntmps18
  go_wp2_with fail
  refine hF.mono ?_; rintro e w1 ⟨z, rfl, hz, rfl⟩
  clear hF
  obtain rfl : z = -1 := by
    rcases hz with ⟨h, _⟩ | ⟨A, y, B, e, _, hy, _⟩
    · exact h
    · exact absurd hy (HH.out y (by rw [e]; simp))
  clear hz
  go_wp2
  go_ret
  exact ⟨rfl, rfl⟩
set_option maxRecDepth 100000 in
set_option maxHeartbeats 4000000 in
theorem rdrop_raw {w0 w : World} {a : Nat} {T : List Nat} {R : RS} (h : RX w0 w a T R) (hl : R.L.length ≤ 64) (k : Int) {A B : List RK} {y : RK} (e1 : R.L = A ++ y :: B) (hy : y.n = k) (hf : ∀ x ∈ A, x.n ≠ k) : Calls Try.prog 18 #[.pointer (some ⟨a, 0, none⟩), .int .i64 k] w fun e w' => e = .returned (.bool true) ∧ Nz RX w0 w w' a T { R with L := A ++ B } := by
  have hF := rfind_any h (by omega) k
  have HH := hid (And.intro h (And.intro e1 (And.intro hy hf)))
  clear h e1 hy hf
  go_enter Try.func18, Try.ntmps18
  go_wp2_with fail
  refine hF.mono ?_; rintro e w1 ⟨z, rfl, hz, rfl⟩
  clear hF
  have hzA : z = (A.length : Int) := by
    have e1 := HH.out.2.1
    have hyk := HH.out.2.2.1
    rcases hz with ⟨_, h⟩ | ⟨A2, y2, B2, e2, rfl, hy2, hf2⟩
    · exact absurd hyk (h y (by rw [e1]; simp))
    · rw [e1] at e2
      have hlen : A.length = A2.length := by
        rcases Nat.lt_trichotomy A.length A2.length with h | h | h
        · have : y ∈ A2 := by
            have h3 : (A ++ y :: B)[A.length]? = some y := by simp
            rw [e2, List.getElem?_append_left h] at h3
            exact List.mem_of_getElem? h3
          exact absurd hyk (hf2 y this)
        · exact h
        · have : y2 ∈ A := by
            have h3 : (A2 ++ y2 :: B2)[A2.length]? = some y2 := by simp
            rw [← e2, List.getElem?_append_left h] at h3
            exact List.mem_of_getElem? h3
          exact absurd hy2 (HH.out.2.2.2 y2 this)
      rw [hlen]
  subst hzA
  obtain ⟨v, hT, hB⟩ := HH.out.1
  obtain ⟨_, _, c2, _, _⟩ := hB.cells
  obtain ⟨p, c, hvs, q1, q2⟩ := hB.o.shape
  rw [hvs] at c2
  have hO := hB.o
  rw [hvs] at hO
  obtain ⟨_, g, hp, _, hcs, _⟩ := hO.cells
  obtain ⟨l, hL⟩ : ∃ l, l = R.L := ⟨_, rfl⟩
  rw [← hL] at c2 q1 hp hcs hl
  obtain ⟨n, hn⟩ : ∃ n, n = l.length := ⟨_, rfl⟩
  rw [← hn] at c2 q1 hp hcs hl
  obtain ⟨i, hi⟩ : ∃ i, i = A.length := ⟨_, rfl⟩
  rw [← hi]
  have HN := hid (And.intro hn (And.intro hL (And.intro hi (And.intro hT hB))))
  have HC := hid hcs
  have HP := hid hp
  have HA := hid c2
  have H0 : Hid (One w1 w1 (.slice none 0 0) ((l.take 0).eraseIdx i)) := ⟨by simpa using OwR.nil w1 w1.heap.size, Kp.refl w1⟩
  have hi0 : decide ((i : Int) < 0) = false := by simp
  clear hz hT hB hO hvs hcs hp hL hn hi
  go_wp2
  clear c2
  go_loopw [6, 7] (fun q x wr => ∃ (j : Nat) (q' : Value), x = .int .i64 j ∧ q' = q ∧ j ≤ n ∧ Hid (One w1 wr q' ((l.take j).eraseIdx i))) (fun _ x _ => n - (intOf x).toNat)
  case atStart => exact ⟨0, _, rfl, rfl, by omega, H0⟩
  case round =>
    clear H0
    obtain ⟨j, q, rfl, rfl, hj, HT⟩ := hrel
    rename World => wr
    have c2 := HT.out.2.held HA.out
    by_cases hjn : j < n
    · obtain rfl := HP.out (by omega)
      have hjn2 : (j : Int) < (n : Int) := by omega
      have hjl : j < l.length := by have := HN.out.1; omega
      by_cases hji : j = i
      · have hd : ((j : Int) != (i : Int)) = false := by simp [hji]
        have HT2 : Hid (One w1 wr q ((l.take (j + 1)).eraseIdx i)) := by
          have q0 := HT.out
          rw [hji] at hjl q0 ⊢
          rw [era_at hjl]
          exact q0
        clear hji HT
        go_wp2
        go_roundw
        case rel => exact ⟨j + 1, _, by go_num, rfl, by omega, HT2⟩
        case measure => simp [intOf]; omega
      · have hd : ((j : Int) != (i : Int)) = true := by simp; omega
        have HE : Hid ((l.take (j + 1)).eraseIdx i = (l.take j).eraseIdx i ++ [l.getD j rk0]) := era_next hjl hji
        have HLn : Hid (((l.take j).eraseIdx i).length ≤ 1000) := by
          have := List.length_eraseIdx_le (l.take j) i
          rw [List.length_take] at this
          show _ ≤ 1000
          omega
        obtain ⟨d0, d1, d2, d3⟩ := HC.out j hjn
        have d0 := HT.out.2.held d0
        have d1 := HT.out.2.held d1
        have d2 := HT.out.2.held d2
        have d3 := HT.out.2.held d3
        obtain ⟨x, hx⟩ : ∃ x, x = l.getD j rk0 := ⟨_, rfl⟩
        rw [← hx] at d0 d1 d2 d3 HE
        clear hx hji
        go_wp2_with (at_builtin; refine wpList_append_rk rfl _ _ rfl w1.heap.size _ ((l.take j).eraseIdx i) rfl (HT.out.1.kept ((Kp.refl _).alloc _)) x _ rfl (lit_rk wr x _ _ rfl) (by have := HLn.out; omega) (by have := HT.out.2.size; simp; omega) ?_; intro u2 w2 ho2 hg2 hr2; have HT1 := hid (HT.out.grow ((Kp.refl wr).alloc (.cells #[.int .i64 x.n, .bool x.d, .bool x.p, .int .i64 x.w] 69)) hg2 ho2); clear ho2 hg2 hr2)
        have HT3 : Hid (One w1 w2 u2 ((l.take (j + 1)).eraseIdx i)) := by rw [HE.out]; exact HT1.out
        clear HT1 HT HE HLn d0 d1 d2 d3
        go_roundw
        case rel => exact ⟨j + 1, _, by go_num, rfl, by omega, HT3⟩
        case measure => simp [intOf]; omega
    · obtain rfl : j = n := by omega
      have hT1 : l.take j = l := List.take_of_length_le (by have := HN.out.1; omega)
      have hq := HT.out
      rw [hT1] at hq
      obtain ⟨hn, hL, hi, hTT, hB⟩ := HN.out
      have hel : l.eraseIdx i = A ++ B := by rw [hL, HH.out.2.1, hi]; exact era_mid A y B
      rw [hel] at hq
      obtain ⟨o1, k1⟩ := hq
      obtain ⟨i1, i2, i3⟩ := hB.setL (w2 := wr) (k1.sp _) (o1.mono hB.sz) (.inr (fun N hN => (o1.lt N hN).1))
      have fz := (hB.kept k1).cells.2.2.2.2 2
      obtain ⟨pq, nq, cq, rfl⟩ := o1.slc
      have HE : Hid (Nz RX w0 w1 (wr.setCell ⟨a, 2, none⟩ (.slice pq nq cq)) a T { R with L := A ++ B }) := by
        rw [hTT]
        exact ⟨_, ⟨_, rfl, i1⟩, i2, i3⟩
      clear hT1 hn hL hi hTT hB hel o1 k1 i1 i2 i3 HT
      go_wp2
      go_ret
      exact ⟨rfl, HE.out⟩
theorem rdrop_any {w0 w : World} {a : Nat} {T : List Nat} {S : TS} {R : RS} (h : RX w0 w a T R) (hr : Rl S R) (hg : Gd S) (hc0 : 0 ≤ R.c) (k : Int) : Calls Try.prog 18 #[.pointer (some ⟨a, 0, none⟩), .int .i64 k] w fun e w' => e = .returned (.bool (inT S k)) ∧ Rz w0 w w' a T (drS S k) R.c := by
  have hlen := hr.len
  have hl : R.L.length ≤ 64 := by have := hg.len; have := hg.m2; omega
  cases hi : inT S k with
  | true =>
    have hm := (hr.mem k).2 (in_iff.1 hi)
    obtain ⟨A, y, B, e1, hy, hf⟩ : ∃ A y B, R.L = A ++ y :: B ∧ y.n = k ∧ ∀ x ∈ A, x.n ≠ k := by
      obtain ⟨x, hx, e⟩ := hm
      obtain ⟨A, B, e1⟩ := List.append_of_mem hx
      obtain ⟨_, _, q, _⟩ := hr.h
      refine ⟨A, x, B, e1, e, fun x2 hx2 e2 => q.off e1 (List.mem_map.2 ⟨x2, List.mem_append_left _ hx2, by rw [e2, e]⟩)⟩
    refine (rdrop_raw h hl k e1 hy hf).mono ?_
    rintro e w' ⟨rfl, z⟩
    exact ⟨rfl, { R with L := A ++ B }, by rw [← hy]; exact hr.drop e1, hc0, Int.le_refl _, z⟩
  | false =>
    have hno : ∀ x ∈ R.L, x.n ≠ k := fun x hx e => in_not.1 hi ((hr.mem k).1 ⟨x, hx, e⟩)
    refine (rdrop_no h hl k hno).mono ?_
    rintro e w' ⟨rfl, rfl⟩
    refine ⟨rfl, R, ?_, hc0, Int.le_refl _, Nz.refl h⟩
    have : drS S k = S := by unfold drS; rw [hi, if_neg (by decide)]
    rw [this]
    exact hr

end Go.Proofs.Yteiangakgfekgaa
