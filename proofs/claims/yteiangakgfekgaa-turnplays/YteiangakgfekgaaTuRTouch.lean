/-
  Contract of the document's Touch. Conditions: that the object lies in memory as RX says, beside a turn (Rl).
-/
import Derived.Test.YteiangakgfekgaaTuRPin
namespace Go.Proofs.Yteiangakgfekgaa
open Go.RowKit Plain
set_option linter.unusedVariables false

/-- a key's mark and time stored, and the clock moved on. -/
theorem RB.mark {w0 w : World} {a g n c : Nat} {R : RS} (hB : RB w0 w a (.slice (some ⟨g, 0, none⟩) n c) R) {A B : List RK} {y : RK} (e1 : R.L = A ++ y :: B) (d : Bool) :
    ((w.cell? ⟨g, A.length * 4 + 1, none⟩).isSome = true ∧ w.frozen? ⟨g, A.length * 4 + 1, none⟩ = false) ∧
    ((w.setCell ⟨g, A.length * 4 + 1, none⟩ (.bool d)).cell? ⟨a, 2, none⟩ = some (.slice (some ⟨g, 0, none⟩) n c) ∧ (w.setCell ⟨g, A.length * 4 + 1, none⟩ (.bool d)).cell? ⟨a, 3, none⟩ = some (.int .i64 R.c) ∧ (w.setCell ⟨g, A.length * 4 + 1, none⟩ (.bool d)).cell? ⟨g, A.length * 4 + 3, none⟩ = some (.int .i64 y.w) ∧ (w.setCell ⟨g, A.length * 4 + 1, none⟩ (.bool d)).frozen? ⟨g, A.length * 4 + 3, none⟩ = false) ∧
    (((w.setCell ⟨g, A.length * 4 + 1, none⟩ (.bool d)).setCell ⟨g, A.length * 4 + 3, none⟩ (.int .i64 R.c)).drew.cell? ⟨a, 3, none⟩ = some (.int .i64 R.c) ∧ ((w.setCell ⟨g, A.length * 4 + 1, none⟩ (.bool d)).setCell ⟨g, A.length * 4 + 3, none⟩ (.int .i64 R.c)).drew.frozen? ⟨a, 3, none⟩ = false) ∧
    RB w0 (((w.setCell ⟨g, A.length * 4 + 1, none⟩ (.bool d)).setCell ⟨g, A.length * 4 + 3, none⟩ (.int .i64 R.c)).setCell ⟨a, 3, none⟩ (.int .i64 (R.c + 1))).drew a (.slice (some ⟨g, 0, none⟩) n c) { R with L := A ++ { y with d := d, w := R.c } :: B, c := R.c + 1 } ∧
    Sp (a :: (Value.slice (some ⟨g, 0, none⟩) n c).ownBlock.toList) w (((w.setCell ⟨g, A.length * 4 + 1, none⟩ (.bool d)).setCell ⟨g, A.length * 4 + 3, none⟩ (.int .i64 R.c)).setCell ⟨a, 3, none⟩ (.int .i64 (R.c + 1))).drew := by
  have hi : A.length < R.L.length := by rw [e1]; simp
  obtain ⟨hn, g', hp, _, hcs, hfz⟩ := hB.o.cells
  have hg : (⟨g, 0, none⟩ : Addr) = ⟨g', 0, none⟩ := by have := hp (by omega); simpa using this
  obtain rfl : g = g' := by cases hg; rfl
  obtain ⟨_, d1, _, d3⟩ := hcs A.length (by omega)
  have q1 := hB.setK (l := A ++ { y with d := d } :: B) (A.length * 4 + 1) (.bool d) (by rw [e1]; exact rv_set1 A y B d) (by rw [e1]; exact set_mid A y _ B)
  have b1 := q1.1
  obtain ⟨_, g1, hp1, _, hcs1, hfz1⟩ := b1.o.cells
  have hg1 : (⟨g, 0, none⟩ : Addr) = ⟨g1, 0, none⟩ := by have := hp1 (by omega); simpa using this
  obtain rfl : g = g1 := by cases hg1; rfl
  have q2 := b1.setK (l := A ++ { y with d := d, w := R.c } :: B) (A.length * 4 + 3) (.int .i64 R.c) (rv_set3 A { y with d := d } B R.c) (set_mid A { y with d := d } { y with d := d, w := R.c } B)
  have b2 := q2.1
  have q3 := b2.setC (R.c + 1)
  have hat : (A ++ { y with d := d } :: B).getD A.length rk0 = { y with d := d } := by simp [List.getD_eq_getElem?_getD]
  refine ⟨⟨by rw [d1]; rfl, hfz _ (by omega)⟩, ⟨b1.cells.2.2.1, b1.cells.2.2.2.1, ?_, hfz1 _ (by omega)⟩, ⟨b2.cells.2.2.2.1, b2.cells.2.2.2.2 3⟩, q3.1.kept ((Kp.refl _).drew), ?_⟩
  · have := (hcs1 A.length (by omega)).2.2.2
    rw [hat] at this
    exact this
  · exact ((q1.2.trans q2.2).trans q3.2).trans (((Kp.refl _).drew).sp _)
set_option maxRecDepth 100000 in
set_option maxHeartbeats 8000000 in
theorem rtouch_any {w0 w : World} {a : Nat} {T : List Nat} {S : TS} {R : RS} (h : RX w0 w a T R) (hr : Rl S R) (hg : Gd S) (hc0 : 0 ≤ R.c) (hcm : R.c ≤ 100000) (k : Int) : Calls Try.prog 16 #[.pointer (some ⟨a, 0, none⟩), .int .i64 k] w fun e w' => e = .returned (.bool (inT S k)) ∧ Rz w0 w w' a T (toS S k) (R.c + 2) := by
  have hlen := hr.len
  have hl : R.L.length ≤ 64 := by have := hg.len; have := hg.m2; omega
  have hF := rfind_any h (by omega) k
  have HH := hid (And.intro h (And.intro hr (And.intro hc0 hcm)))
  clear h hr hg hlen
  go_enter Try.func16, Try.ntmps16
  go_wp2_with fail
  refine hF.mono ?_; rintro e w1 ⟨z, rfl, hz, rfl⟩
  clear hF
  rcases fr_in HH.out.2.1 hz with ⟨rfl, hin⟩ | ⟨hz0, hin, A, y, B, e1, rfl, hy⟩
  · have HI := hid hin
    clear hz hin
    go_wp2
    go_ret
    refine ⟨by rw [HI.out]; rfl, R, ?_, hc0, by omega, Nz.refl HH.out.1⟩
    have : toS S k = S := by unfold toS; rw [HI.out, if_neg (by decide)]
    rw [this]
    exact HH.out.2.1
  · obtain ⟨v, hT, hB⟩ := HH.out.1
    obtain ⟨p, c, rfl, q1, q2⟩ := hB.o.shape
    obtain ⟨_, g, hp, _⟩ := hB.o.cells
    have hi : A.length < R.L.length := by rw [e1]; simp
    obtain rfl := hp (by omega)
    obtain ⟨_, c1, c2, _, _⟩ := hB.cells
    obtain ⟨⟨m1, m2⟩, ⟨m3, m4, m5, m6⟩, ⟨m7, m8⟩, b3, s3⟩ := hB.mark e1 true
    obtain ⟨n, hn⟩ : ∃ n, n = R.L.length := ⟨_, rfl⟩
    obtain ⟨i, hi2⟩ : ∃ i, i = A.length := ⟨_, rfl⟩
    obtain ⟨cc, hcc⟩ : ∃ c, c = R.c := ⟨_, rfl⟩
    obtain ⟨m0, m1⟩ := Option.isSome_iff_exists.1 m1
    rw [← hi2] at m1 m2 m3 m4 m5 m6 m7 m8 b3 s3
    rw [← hcc] at m4 m7 m8 b3 s3
    rw [← hn] at m3 c2 q1 hi hl
    rw [← hi2] at hi ⊢
    obtain ⟨W3, hW3⟩ : ∃ W, W = (((w1.setCell ⟨g, i * 4 + 1, none⟩ (.bool true)).setCell ⟨g, i * 4 + 3, none⟩ (.int .i64 cc)).setCell ⟨a, 3, none⟩ (.int .i64 (cc + 1))).drew := ⟨_, rfl⟩
    rw [← hW3] at b3 s3
    obtain ⟨R3, hR3⟩ : ∃ R3, R3 = { R with L := A ++ { y with d := true, w := cc } :: B, c := cc + 1 } := ⟨_, rfl⟩
    rw [← hR3] at b3
    have hr3 : Rl (dcS (tkS S k) k) R3 := by rw [hR3, hcc, ← hy]; exact HH.out.2.1.dc e1
    have hc3 : R3.c = cc + 1 := by rw [hR3]
    have hl3 : R3.L.length ≤ 64 := by rw [hR3]; show (A ++ _ :: B).length ≤ 64; rw [set_mid A y _ B, ← e1, ← hn]; exact hl
    obtain ⟨S2, hS2⟩ : ∃ S2, S2 = dcS (tkS S k) k := ⟨_, rfl⟩
    rw [← hS2] at hr3
    have hto : toS S k = bkS S2 := by rw [hS2]; unfold toS; rw [hin, if_pos rfl]
    have hcb : 0 ≤ cc ∧ cc ≤ 100000 := by rw [hcc]; exact ⟨hc0, hcm⟩
    obtain ⟨hcb1, hcb2⟩ := hcb
    have hD := rdear_any ⟨_, rfl, b3⟩ (by omega)
    rw [hr3.dear] at hD
    have H3 := hid (And.intro b3 (And.intro s3 (And.intro hr3 (And.intro hto (And.intro hin (And.intro hT (And.intro hc3 (And.intro hl3 hcc))))))))
    have HS2 : Hid (∃ f r, S2.D = f :: r) := by
      show ∃ f r, S2.D = f :: r
      rw [hS2]
      show ∃ f r, (tkS S k).D ++ [k] = f :: r
      cases (tkS S k).D with
      | nil => exact ⟨_, _, rfl⟩
      | cons x l => exact ⟨_, _, rfl⟩
    have HZ : Hid (R3.Z = S2.Z) := hr3.Z
    have hi3 : (i : Int) < (n : Int) := by omega
    have hi4 : decide ((i : Int) < 0) = false := by simp
    have HW3 := hid hW3
    clear hz hin e1 hy hB hT hp hn hi2 hcc hW3 hR3 hr3 hS2 hto hc0 hcm hz0 hc3 hl3 b3 s3
    go_wp2_with fail
    go_region
    go_upto_region 7 with fail
    rw [← HW3.out]
    clear m1 m2 m3 m4 m5 m6 m7 m8 HW3 c1 c2
    go_wp2_with fail
    refine hD.mono ?_; rintro e w4 ⟨rfl, rfl⟩
    clear hD
    obtain ⟨_, c1, c2, _, _⟩ := H3.out.1.cells
    obtain ⟨dl, hdl⟩ : ∃ n, n = S2.D.length := ⟨_, rfl⟩
    rw [← hdl]
    have HDL := hid hdl
    obtain ⟨zz, hzz⟩ : ∃ z, z = R3.Z := ⟨_, rfl⟩
    rw [← hzz] at c1
    have HZZ : Hid (zz = S2.Z) := hzz.trans HZ.out
    clear hdl hzz HZ
    by_cases hlt : zz < (dl : Int)
    · have hd : decide (zz < (dl : Int)) = true := by simp [hlt]
      have hFs := rfirst_any ⟨_, rfl, H3.out.1⟩ (by have := H3.out.2.2.2.2.2.2.2.1; omega) true false
      have HLT := hid hlt
      clear hlt
      go_wp2_with fail
      refine hFs.mono ?_; rintro e w5 ⟨z, rfl, hz, k5⟩
      clear hFs
      obtain ⟨PL, DL, hSd, hP, hDD⟩ := H3.out.2.2.1.h
      obtain ⟨f, r, hfr⟩ := HS2.out
      obtain ⟨x, DL1, hDL⟩ : ∃ x DL1, DL = x :: DL1 := by
        cases DL with
        | nil => rw [hfr] at hDD; simp at hDD
        | cons x l => exact ⟨x, l, rfl⟩
      have hxd : x.d = true := hSd.fd x (by rw [hDL]; simp)
      obtain ⟨j, rfl, hj, hjx⟩ := bst_get hSd hz (A := []) (B := DL1) (x := x) (by show DL = _; rw [hDL]; rfl) (by simp) (by unfold okB; rw [hxd]; rfl)
      have hxn : S2.D = x.n :: r := by
        rw [hDL, hfr] at hDD
        simp at hDD
        rw [hfr, hDD.1]
      have e3 := rk_at hj
      rw [hjx] at e3
      have hjl : (R3.L.take j).length = j := by rw [List.length_take]; omega
      have b5 := H3.out.1.kept k5
      have hB5 := b5.mark e3 false
      rw [hjl] at hB5
      obtain ⟨⟨m1, m2⟩, ⟨m3, m4, m5, m6⟩, ⟨m7, m8⟩, b6, s6⟩ := hB5
      obtain ⟨m0', m1⟩ := Option.isSome_iff_exists.1 m1
      have hbk := H3.out.2.2.1.bk e3 hxn (by rw [← HZZ.out, ← HDL.out]; exact HLT.out)
      obtain ⟨_, _, c2, _, _⟩ := b5.cells
      have hnR := H3.out.1.o.cells.1
      obtain ⟨n3, hn3⟩ : ∃ x, x = R.L.length := ⟨_, rfl⟩
      rw [← hn3] at c2 m3 hnR
      have hn64 : n3 ≤ 64 := by have := H3.out.2.2.2.2.2.2.2.1; omega
      have hj3 : (j : Int) < (n3 : Int) := by omega
      have hj4 : decide ((j : Int) < 0) = false := by simp
      have hc3 := H3.out.2.2.2.2.2.2.1
      obtain ⟨c3, hc33⟩ : ∃ x, x = R3.c := ⟨_, rfl⟩
      rw [← hc33] at m4 m7 m8 b6 s6
      have hcb3 : 0 ≤ c3 ∧ c3 ≤ 100001 := by rw [hc33, hc3]; omega
      obtain ⟨hcb3a, hcb3b⟩ := hcb3
      have HE : Hid (inT S k = true ∧ Rz w0 w1 (((w5.setCell ⟨g, j * 4 + 1, none⟩ (.bool false)).setCell ⟨g, j * 4 + 3, none⟩ (.int .i64 c3)).setCell ⟨a, 3, none⟩ (.int .i64 (c3 + 1))).drew a T (toS S k) (R.c + 2)) := by
        refine ⟨H3.out.2.2.2.2.1, _, by rw [H3.out.2.2.2.1]; exact hbk, ?_, ?_, ?_⟩
        · show 0 ≤ R3.c + 1; omega
        · show R3.c + 1 ≤ R.c + 2; have := H3.out.2.2.2.2.2.2.2.2; omega
        · rw [H3.out.2.2.2.2.2.1]
          rw [hc33] at b6 s6 ⊢
          exact ⟨_, ⟨_, rfl, b6⟩, (H3.out.2.1.trans (k5.sp _)).trans s6, Nw.refl _ _⟩
      clear hz k5 hSd hP hDD hfr hDL hxd hj hjx hxn e3 hjl b5 b6 s6 hbk hnR hn3 hc3 hc33 HS2 HLT H3 HH HDL HZZ
      go_wp2_with fail
      go_region
      go_wp2
      go_ret
      exact ⟨by rw [HE.out.1]; rfl, HE.out.2⟩
    · have hd : decide (zz < (dl : Int)) = false := by simp; omega
      have HE : Hid (inT S k = true ∧ Rz w0 w1 w4 a T (toS S k) (R.c + 2)) := by
        have e0 : bkS S2 = S2 := by
          unfold bkS
          split
          · rfl
          · rw [if_neg (by rw [← HZZ.out, ← HDL.out]; exact hlt)]
        refine ⟨H3.out.2.2.2.2.1, R3, ?_, ?_, ?_, ?_⟩
        · rw [H3.out.2.2.2.1, e0]; exact H3.out.2.2.1
        · have := H3.out.2.2.2.2.2.2.1; omega
        · have h1 := H3.out.2.2.2.2.2.2.1; have h2 := H3.out.2.2.2.2.2.2.2.2; omega
        · rw [H3.out.2.2.2.2.2.1]
          exact ⟨_, ⟨_, rfl, H3.out.1⟩, H3.out.2.1, Nw.refl _ _⟩
      clear hlt H3 HH HDL HZZ HS2
      go_wp2
      go_ret
      exact ⟨by rw [HE.out.1]; rfl, HE.out.2⟩

end Go.Proofs.Yteiangakgfekgaa
