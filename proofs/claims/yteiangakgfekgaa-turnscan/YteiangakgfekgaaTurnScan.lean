/-
  TurnScan: for every input the law answers true, and its arguments read as before. No condition.
-/
import Derived.Test.YteiangakgfekgaaRows
import Derived.Test.YteiangakgfekgaaBufArgs
import Derived.Test.YteiangakgfekgaaTuRun
import Derived.WalkKit
import Derived.ProofKit
import Derived.OpenShut
import Derived.ShutString
import Derived.Deep.QuietTactic
import Derived.BigQuiet
import Derived.Deep.RegionWith
import Derived.Deep.RegionHeld3
import Derived.Deep.DeepCutAuto
import Derived.Deep.CutBlock
namespace Go.Proofs.Yteiangakgfekgaa.turnScan
open Go.ChangeShapes Go.WideShapes Go.ChangeAt Go.RowKit
open Go.ChangeMaps (open_string shut_string)
open Go.Proofs.Yteiangakgfekgaa Plain
set_option linter.unusedVariables false

theorem own : ownKnob Try.prog.godebug = none := by kernel_rfl
theorem laidOut : laidOutB Try.prog = true := by kernel_rfl
theorem cellsI : Try.prog.cellsOf 3 = 1 := by kernel_rfl
theorem cellsJ : Try.prog.cellsOf 45 = 2 := by kernel_rfl
/-- the keys below k aren't pinned any more. -/
structure Un (S S' : TS) (k : Nat) : Prop where
  P : S'.P = S.P
  D : S'.D = S.D
  M : S'.M = S.M
  Z : S'.Z = S.Z
  n : S'.n ≤ 80 + k
  K : ∀ j, S'.K j = true → S.K j = true ∧ (j < 0 ∨ (k : Int) ≤ j)
theorem Un.new {S : TS} {x y : Int} (h : Rn S x y) (hg : Gd S) : Un S S 0 := ⟨rfl, rfl, rfl, rfl, h.n, fun j hj => ⟨hj, by have := h.ks j (hg.kin j hj); omega⟩⟩
theorem Un.next {S S' : TS} {k : Nat} (h : Un S S' k) (hg : Gd S') : Un S (pnS S' k false) (k + 1) := by
  unfold pnS
  split
  · refine ⟨h.P, h.D, h.M, h.Z, by have := h.n; show S'.n + 1 ≤ _; omega, fun j hj => ?_⟩
    have hj2 : setK S'.K k false j = true := hj
    unfold setK at hj2
    by_cases e : j = (k : Int)
    · rw [if_pos e] at hj2; cases hj2
    · rw [if_neg e] at hj2
      have := h.K j hj2
      exact ⟨this.1, by omega⟩
  · rename_i hi
    refine ⟨h.P, h.D, h.M, h.Z, by have := h.n; omega, fun j hj => ?_⟩
    have h2 := h.K j hj
    refine ⟨h2.1, ?_⟩
    by_cases e : j = (k : Int)
    · rw [e] at hj
      exact absurd (in_iff.2 (hg.kin _ hj)) hi
    · omega
/-- as the turn is while keys are added. -/
structure Sc (S S' : TS) (b : Int) : Prop where
  D : S'.D = S.D
  M : S'.M = S.M
  Z : S'.Z = S.Z
  K : ∀ j, S'.K j = false
  b : ∀ j ∈ S'.P ++ S'.D, j < b
theorem Un.sc {S S' : TS} {x y : Int} (h : Un S S' 32) (hr : Rn S x y) (hg : Gd S) : Sc S S' 1000 := by
  refine ⟨h.D, h.M, h.Z, fun j => ?_, fun j hj => ?_⟩
  · cases hk : S'.K j with
    | false => rfl
    | true =>
      have h1 := h.K j hk
      have h2 := hr.ks j (hg.kin j h1.1)
      omega
  · rw [h.P, h.D] at hj
    have := hr.ks j hj
    omega
theorem Sc.full {S S' : TS} {b : Int} (h : Sc S S' b) (hg : Gd S') (hf : S'.M ≤ (S'.P.length : Int) + (S'.D.length : Int)) : ∃ k r, S'.P = k :: r ∧ vcO S' = some k ∧ k ∉ S'.D := by
  have h1 := hg.dl
  have h2 := hg.z1
  cases hp : S'.P with
  | nil => rw [hp] at hf; simp at hf; omega
  | cons k r =>
    refine ⟨k, r, rfl, ?_, hg.off (by rw [hp]; simp)⟩
    unfold vcO
    rw [hp]
    simp [h.K k]
theorem Sc.drop {S S' : TS} {b : Int} (h : Sc S S' b) (hg : Gd S') {k : Int} {r : List Int} (hp : S'.P = k :: r) : Sc S (drS S' k) b ∧ (drS S' k).P.length + 1 = S'.P.length ∧ inT S' k = true := by
  have hin : inT S' k = true := in_iff.2 (by rw [hp]; simp)
  have hkD : k ∉ S'.D := hg.off (by rw [hp]; simp)
  have e : drS S' k = { tkS S' k with K := setK S'.K k false } := by unfold drS; rw [if_pos hin]
  have eD : (drS S' k).D = S'.D := by rw [e]; show S'.D.erase k = _; exact erase_out hkD
  have eP : (drS S' k).P = r := by rw [e]; show S'.P.erase k = _; rw [hp, List.erase_cons_head]
  refine ⟨⟨eD.trans h.D, by rw [e]; exact h.M, by rw [e]; exact h.Z, fun j => ?_, fun j hj => ?_⟩, by rw [eP, hp]; simp, hin⟩
  · rw [e]
    show setK S'.K k false j = false
    unfold setK
    split
    · rfl
    · exact h.K j
  · rw [eP, eD] at hj
    apply h.b j
    rw [hp]
    exact List.mem_cons_of_mem _ hj
theorem Sc.add {S S' : TS} {b : Int} (h : Sc S S' b) (hf : ¬ S'.M ≤ (S'.P.length : Int) + (S'.D.length : Int)) : adE S' b = 0 ∧ Sc S (adS S' b) (b + 1) := by
  have e : adE S' b = 0 := ad_iff.2 ⟨fun hb => by have := h.b b hb; omega, by omega⟩
  refine ⟨e, ?_⟩
  rw [ad_ok e]
  refine ⟨h.D, h.M, h.Z, h.K, fun j hj => ?_⟩
  rcases List.mem_cons.1 ((ad_perm S' b).mem_iff.1 hj) with rfl | hj
  · omega
  · have := h.b j hj; omega
/-- the dear ones of the first keys. -/
def df (S : TS) (k : Nat) : List Int := ((S.P ++ S.D).take k).filter (fun x => decide (x ∈ S.D))
theorem df_next {S : TS} {k : Nat} (h : k < (S.P ++ S.D).length) : df S (k + 1) = if (S.P ++ S.D).getD k 0 ∈ S.D then df S k ++ [(S.P ++ S.D).getD k 0] else df S k := by
  unfold df
  rw [take_next h, List.filter_append]
  by_cases e : (S.P ++ S.D).getD k 0 ∈ S.D
  · rw [if_pos e, List.filter_cons, if_pos (decide_eq_true e)]; rfl
  · rw [if_neg e, List.filter_cons, if_neg (by simpa using e)]; simp
theorem df_all {S : TS} (hg : Gd S) : df S (S.P ++ S.D).length = S.D := by
  unfold df
  rw [List.take_length, List.filter_append, List.filter_eq_nil_iff.2 (fun x hx => by simpa using hg.off hx), List.filter_eq_self.2 (fun x hx => by simpa using hx)]
  rfl
theorem df_len (S : TS) (k : Nat) : (df S k).length ≤ (S.P ++ S.D).length := by
  unfold df
  have h1 := List.length_filter_le (fun x => decide (x ∈ S.D)) ((S.P ++ S.D).take k)
  rw [List.length_take] at h1
  omega
/-- how many plain keys there are. -/
def plen (a : Nat) (w : World) : Nat := match w.cell? ⟨a, 0, none⟩ with
  | some (.slice _ n _) => n
  | _ => 0
theorem tu_plen {w0 w : World} {a : Nat} {S : TS} {X : List Nat} (h : Tu w0 w a S X) : plen a w = S.P.length := by
  obtain ⟨T, ⟨mb, vp, vd, _, h1⟩, _⟩ := h
  obtain ⟨p, c, e⟩ := h1.p.shape
  unfold plen
  rw [h1.cells.1, e]
set_option maxRecDepth 100000 in
set_option maxHeartbeats 8000000 in
theorem walk (w : World) (a0 b0 : Int) (a1 : Value) (l1 : List A3) (a2 : Int) (w0 : (Lit.int .i64 a0).wf = true) (x0 : (Lit.int .i64 b0).wf = true) (w1 : Acts w a1 l1) (w2 : (Lit.int .i64 a2).wf = true) :
    Calls Try.prog 5 #[.agg #[.int .i64 a0, .int .i64 b0], a1, .int .i64 a2] w fun e w' => e = .returned (.bool true) ∧ Kp w w' := by
  clear w0 x0 w2
  obtain ⟨mx, hmx⟩ : ∃ mx, mx = max 0 a2 := ⟨_, rfl⟩
  have hmax : ∀ ts t W, (Builtin.max_ ts t #[.int .i64 0, .int .i64 a2]).run Try.prog W = .ok (.int .i64 mx) W := fun ts t W => by rw [hmx]; exact imax ts t 0 a2 W
  obtain ⟨m, hm⟩ : ∃ m : Nat, (m : Int) = mx % 60 := ⟨(mx % 60).toNat, Int.toNat_of_nonneg (Int.emod_nonneg _ (by omega))⟩
  have hm60 : m < 60 := by omega
  have htm : mx.tmod 60 = (m : Int) := by rw [Int.tmod_eq_emod_of_nonneg (by omega), hm]
  obtain ⟨W, hW⟩ : ∃ W, W = w.alloc (.cells #[.int .i64 a0, .int .i64 b0] 45) := ⟨_, rfl⟩
  obtain ⟨H, hH⟩ : ∃ H, H = w.heap.size := ⟨_, rfl⟩
  have hB : W.heap[H]? = some (.cells #[.int .i64 a0, .int .i64 b0] 45 (0, 0)) := by rw [hW, hH]; exact new_obj _ _ _
  have e0 := cell_of hB 0
  have e1 := cell_of hB 1
  have HW : Hid (W = w.alloc (.cells #[.int .i64 a0, .int .i64 b0] 45) ∧ H = w.heap.size) := ⟨hW, hH⟩
  have kW : Kp w W := by rw [hW]; exact (Kp.refl w).alloc _
  have HK := hid kW
  have hRn := run_any a0 b0 a1 l1 W (w1.kept kW)
  obtain ⟨pa, pg, po, pc, ln, rfl, _⟩ := w1.open
  clear hmx hm hW hH hB kW w1
  go_enter Try.func5, Try.ntmps5
  go_upto_region 1 with fail
  rw [← HW.out.1, ← HW.out.2]
  clear HW
  go_wp2_with fail
  refine hRn.mono ?_; rintro e w2 ⟨a, S, rfl, u2, r2⟩
  have HU := hid (And.intro u2 r2)
  clear hRn e0 e1 u2 r2
  go_wp2_with fail
  refine (wakes_any _).mono ?_; rintro e w3 ⟨rfl, k3⟩
  have u3 := (HU.out.1.kp k3).1
  have HS : Hid (Rn S a0 b0 ∧ Gd S) := ⟨HU.out.2, u3.g⟩
  have H0 : Hid (∃ S', Tu W w3 a S' [] ∧ Un S S' 0) := ⟨S, u3, Un.new HU.out.2 u3.g⟩
  clear k3 u3 HU
  go_wp2_with fail
  go_loopw [10, 40] (fun _ i wr => ∃ k : Nat, k ≤ 32 ∧ i = .int .i64 k ∧ Hid (∃ S', Tu W wr a S' [] ∧ Un S S' k)) (fun _ i _ => 32 - (intOf i).toNat)
  case atStart => exact ⟨0, by omega, rfl, H0⟩
  case round =>
    clear H0
    obtain ⟨k, hk, rfl, HQ⟩ := hrel
    obtain ⟨S', u1, q1⟩ := HQ.out
    rename World => wr
    by_cases hlt : k < 32
    · have hk3 : (k : Int) < 32 := by omega
      have hP := u1.pin (by have := q1.n; omega) (k : Int) false
      have H1 := hid (And.intro q1 u1.g)
      clear HQ u1 q1
      go_wp2_with fail
      refine hP.mono ?_; rintro e w4 ⟨rfl, u4, _⟩
      have HQ2 : Hid (∃ S', Tu W w4 a S' [] ∧ Un S S' (k + 1)) := ⟨_, u4, H1.out.1.next H1.out.2⟩
      clear hP u4 H1
      go_wp2
      go_roundw
      case rel => exact ⟨k + 1, by omega, by go_num, HQ2⟩
      case measure => simp [intOf]; omega
    · obtain rfl : k = 32 := by omega
      have hsc := q1.sc HS.out.1 HS.out.2
      have hSP : S'.P = S.P := q1.P
      have hg1 := u1.g
      have hL := u1.len
      obtain ⟨d, hd⟩ : ∃ d, d = (S'.D.length : Int) := ⟨_, rfl⟩
      rw [← hd] at hL
      have HT := hid (And.intro hsc (And.intro hSP (And.intro hg1 hd)))
      have HU := hid u1
      clear HQ u1 q1 hsc hSP hg1 hd
      go_wp2_with fail
      refine hL.mono ?_; rintro e w4 ⟨rfl, k4⟩
      have u4 := (HU.out.kp k4).1
      have hO := u4.order
      have HU4 := hid u4
      clear hL k4 u4 HU
      go_wp2_with fail
      refine hO.mono ?_; rintro e U ⟨v, rfl, ho, k5⟩
      obtain ⟨l, hl⟩ : ∃ l, l = S'.P ++ S'.D := ⟨_, rfl⟩
      rw [← hl] at ho
      obtain ⟨pv, cv, hvs⟩ := ho.shape
      obtain ⟨n, hn⟩ : ∃ n, n = l.length := ⟨_, rfl⟩
      rw [← hn] at hvs
      have hn64 : n ≤ 64 := by
        have h1 := HT.out.2.2.1.len
        have h2 := HT.out.2.2.1.m2
        rw [hn, hl, List.length_append]
        omega
      have HO : Hid (OwnI U w4.heap.size v l ∧ v = .slice pv n cv ∧ n = l.length ∧ l = S'.P ++ S'.D) := ⟨ho, hvs, hn, hl⟩
      have HUk : Hid (Kp W U) := HU4.out.k.trans k5
      have hvlt : ∀ g, v.ownBlock = some g → g < U.heap.size := fun g hg => (ho.lt g hg).2
      have HVL := hid hvlt
      have H0 : Hid (Tu W U a S' ((Value.slice none 0 0).ownBlock.toList) ∧ OwnI U U.heap.size (.slice none 0 0) (df S' 0) ∧ OwnI U w4.heap.size v l ∧ U.heap.size ≤ U.heap.size) := ⟨by simpa [Value.ownBlock] using (HU4.out.kp k5).1, by simpa [df] using OwnI.nil U U.heap.size, ho, Nat.le_refl _⟩
      rw [hvs]
      clear hO ho k5 HU4 hl hvs hn hvlt
      go_wp2_with fail
      go_loopw [13, 15, 16, 17, 55] (fun q _ _ _ i wr => ∃ (k : Nat) (q' : Value), q' = q ∧ k ≤ n ∧ i = .int .i64 k ∧ Hid (Tu W wr a S' q'.ownBlock.toList ∧ OwnI wr U.heap.size q' (df S' k) ∧ OwnI wr w4.heap.size v l ∧ U.heap.size ≤ wr.heap.size)) (fun _ _ _ _ i _ => n - (intOf i).toNat)
      case atStart => exact ⟨0, _, rfl, by omega, rfl, H0⟩
      case round =>
        clear H0
        obtain ⟨k, q, rfl, hk, rfl, HQ⟩ := hrel
        rename World => wr
        by_cases hlt : k < n
        · have hil : k < l.length := by have := HO.out.2.2.1; omega
          have hI := HQ.out.2.2.1.ints
          obtain ⟨q1, g, q2, q3, q4, q5, q6, q7, q8⟩ := hI
          rw [HO.out.2.1] at q3
          have e2 := q6 (by omega)
          have hq : pv = some ⟨g, 0, none⟩ := by
            have e3 : pv = q1 := by simp at q3; exact q3.1
            rw [e3, e2]
          subst hq
          have d0 := q8 k hil
          obtain ⟨y, hy⟩ : ∃ y, y = l.getD k 0 := ⟨_, rfl⟩
          rw [← hy] at d0
          have hk3 : (k : Int) < (n : Int) := by omega
          have hHas := HQ.out.1.has y
          have hnx := df_next (S := S') (k := k) (by rw [← HO.out.2.2.2]; exact hil)
          rw [← HO.out.2.2.2, ← hy] at hnx
          by_cases hyD : y ∈ S'.D
          · rw [decide_eq_true hyD] at hHas
            rw [if_pos hyD] at hnx
            have HNX := hid hnx
            have hl1 := df_len S' k
            rw [← HO.out.2.2.2] at hl1
            obtain ⟨pq, cq, hqs⟩ := HQ.out.2.1.shape
            have HQS := hid hqs
            have HL1 := hid hl1
            subst hqs
            clear q3 q4 q5 q6 q7 q8 e2 hy hyD hnx hl1 hil
            go_wp2_with fail
            refine hHas.mono ?_; rintro e w7 ⟨rfl, rfl⟩
            clear hHas
            go_wp2_with (at_builtin; refine wpList_append_nums rfl _ _ 34 rfl Try.underlying34 U.heap.size _ (df S' k) rfl (HQ.out.2.1.kept ((Kp.refl _).alloc _)) _ [y] rfl (InI.one _ y _ _ rfl) ?c1 ?c2 ?_; rotate_left; rotate_left; intro v' w8 ho2 hg2 hr2)
            case c1 => have h1 := HL1.out; have h2 := HO.out.2.2.1; simp; omega
            case c2 => have := HQ.out.2.2.2; simp; omega
            have HQ2 : Hid (Tu W w8 a S' v'.ownBlock.toList ∧ OwnI w8 U.heap.size v' (df S' (k + 1)) ∧ OwnI w8 w4.heap.size v l ∧ U.heap.size ≤ w8.heap.size) := by
              obtain ⟨x1, x2, x3, x4⟩ := HQ.out
              have hk1 : Kp w7 (w7.alloc (.cells #[.int .i64 y] 3)) := (Kp.refl _).alloc _
              have hsp := (hk1.sp (Value.slice pq (df S' k).length cq).ownBlock.toList).trans (grown_sp hg2)
              have hWU := HUk.out.size
              rw [HNX.out]
              refine ⟨x1.mv hsp (fun t ht => ⟨ht, by have := (x2.lt t (by simpa using ht)).1; omega⟩) (fun x hx => ?_), ho2, x3.sp hsp (fun g hg e => by have h1 := HVL.out g hg; have h2 := (x2.lt g (by simpa using e)).1; omega), Nat.le_trans x4 hsp.size⟩
              have hx2 : v'.ownBlock = some x := by simpa using hx
              refine ⟨?_, (ho2.lt x hx2).2⟩
              rcases hr2 with h | h
              · have h' : v'.ownBlock = (Value.slice pq (df S' k).length cq).ownBlock := h
                exact .inl (by rw [← h']; exact hx)
              · rw [h] at hx2
                have := Option.some.inj hx2
                exact .inr (by rw [← this]; exact hk1.size)
            clear ho2 hg2 hr2 HQ HNX HQS HL1 d0
            go_wp2
            go_roundw
            case rel => exact ⟨k + 1, _, rfl, by omega, by go_num, HQ2⟩
            case measure => simp [intOf]; omega
          · rw [decide_eq_false hyD] at hHas
            rw [if_neg hyD] at hnx
            have HQ2 : Hid (Tu W wr a S' q.ownBlock.toList ∧ OwnI wr U.heap.size q (df S' (k + 1)) ∧ OwnI wr w4.heap.size v l ∧ U.heap.size ≤ wr.heap.size) := by
              show _ ∧ OwnI wr U.heap.size q (df S' (k + 1)) ∧ _
              rw [hnx]
              exact HQ.out
            clear q3 q4 q5 q6 q7 q8 e2 hy hyD hnx hil HQ
            go_wp2_with fail
            refine hHas.mono ?_; rintro e w7 ⟨rfl, rfl⟩
            clear hHas
            go_wp2
            go_roundw
            case rel => exact ⟨k + 1, q, rfl, by omega, by go_num, HQ2⟩
            case measure => simp [intOf]; omega
        · obtain rfl : k = n := by omega
          have hall : df S' k = S'.D := by
            have := df_all HT.out.2.2.1
            rw [← HO.out.2.2.2, ← HO.out.2.2.1] at this
            exact this
          obtain ⟨x1, x2, x3, x4⟩ := HQ.out
          rw [hall] at x2
          have hWU := HUk.out.size
          have x2' := x2.mono hWU
          have H1 : Hid (∃ S2, Tu W wr a S2 q.ownBlock.toList ∧ Sc S S2 1000 ∧ OwnI wr W.heap.size q S'.D) := ⟨S', x1, HT.out.1, x2'⟩
          have HD : Hid (S'.D = S.D ∧ d = (S.D.length : Int) ∧ S.D.length ≤ 64) := ⟨HT.out.1.D, by rw [HT.out.2.2.2, HT.out.1.D], by have h1 := HS.out.2.len; have h2 := HS.out.2.m2; omega⟩
          clear hall x1 x2 x3 x4 hWU x2' HQ HUk HO HVL HT
          go_wp2_with fail
          go_loopw [18, 19, 20, 21, 22, 74] (fun _ _ _ _ _ i wx => ∃ k : Nat, k ≤ m ∧ i = .int .i64 k ∧ Hid (∃ S2, Tu W wx a S2 q.ownBlock.toList ∧ Sc S S2 (1000 + (k : Int)) ∧ OwnI wx W.heap.size q S'.D)) (fun _ _ _ _ _ i _ => m - (intOf i).toNat)
          case atStart => exact ⟨0, by omega, rfl, by simpa using H1⟩
          case round =>
            clear H1
            obtain ⟨i, hi, rfl, HQ⟩ := hrel
            rename World => wx
            by_cases him : i < m
            · have him2 : (i : Int) < (m : Int) := by omega
              go_wp2_with fail
              go_loopw [19, 20, 21, 22] (fun _ _ _ _ wy => Hid (∃ S2, Tu W wy a S2 q.ownBlock.toList ∧ Sc S S2 (1000 + (i : Int)) ∧ OwnI wy W.heap.size q S'.D)) (fun _ _ _ _ wy => plen a wy)
              case atStart => exact HQ
              case round =>
                clear HQ
                have HQ := hrel
                clear hrel
                rename World => wy
                obtain ⟨S2, u1, s1, o1⟩ := HQ.out
                have hF := u1.full
                by_cases hf : S2.M ≤ (S2.P.length : Int) + (S2.D.length : Int)
                · rw [decide_eq_true hf] at hF
                  obtain ⟨x, r, hp, hv, hxD⟩ := s1.full u1.g hf
                  obtain ⟨s2, hpl, hin⟩ := s1.drop u1.g hp
                  have H2 := hid (And.intro u1 (And.intro o1 (And.intro s2 (And.intro hpl (And.intro hin (And.intro hv hxD))))))
                  clear HQ u1 s1 o1 hf hp hv hxD s2 hpl hin
                  go_wp2_with fail
                  refine hF.mono ?_; rintro e v1 ⟨rfl, k1⟩
                  obtain ⟨u1, j1⟩ := H2.out.1.kp k1
                  have o1 := H2.out.2.1.kept k1
                  have hV := u1.victim
                  rw [H2.out.2.2.2.2.2.1, show vcK S2 = x by unfold vcK; rw [H2.out.2.2.2.2.2.1]; rfl] at hV
                  have H3 := hid (And.intro u1 o1)
                  clear hF u1 j1 k1 o1
                  go_wp2_with fail
                  refine hV.mono ?_; rintro e v2 ⟨rfl, k2⟩
                  obtain ⟨u2, j2⟩ := H3.out.1.kp k2
                  have o2 := H3.out.2.kept k2
                  have hHas := u2.has x
                  have hDr := u2.drop x
                  rw [H2.out.2.2.2.2.1] at hHas hDr
                  rw [decide_eq_false H2.out.2.2.2.2.2.2] at hHas
                  have H4 := hid (And.intro u2 o2)
                  clear hV u2 j2 k2 o2 H3
                  go_wp2_with fail
                  refine hHas.mono ?_; rintro e v3 ⟨rfl, rfl⟩
                  clear hHas
                  go_wp2_with fail
                  refine hDr.mono ?_; rintro e v4 ⟨rfl, u4, j4⟩
                  have HE : Hid ((∃ S2, Tu W v4 a S2 q.ownBlock.toList ∧ Sc S S2 (1000 + (i : Int)) ∧ OwnI v4 W.heap.size q S'.D) ∧ plen a v4 < plen a wy) := by
                    refine ⟨⟨_, u4, H2.out.2.2.1, j4.own H4.out.2 (fun g hg => by simp [hg])⟩, ?_⟩
                    rw [tu_plen u4, tu_plen H2.out.1]
                    have := H2.out.2.2.2.1
                    omega
                  clear hDr u4 j4 H4 H2
                  go_wp2
                  go_roundw
                  case rel => exact HE.out.1
                  case measure => exact HE.out.2
                · rw [decide_eq_false hf] at hF
                  obtain ⟨hae, s2⟩ := s1.add hf
                  have H2 := hid (And.intro u1 (And.intro o1 (And.intro s2 hae)))
                  clear HQ u1 s1 o1 hf s2 hae
                  go_wp2_with fail
                  refine hF.mono ?_; rintro e v1 ⟨rfl, k1⟩
                  obtain ⟨u1, j1⟩ := H2.out.1.kp k1
                  have o1 := H2.out.2.1.kept k1
                  have hA := u1.add (k := 1000 + (i : Int)) (by unfold iOk; omega)
                  rw [H2.out.2.2.2] at hA
                  have H3 := hid o1
                  clear hF u1 j1 k1 o1
                  go_wp2_with fail
                  refine hA.mono ?_; rintro e v2 ⟨rfl, u2, j2⟩
                  have HE : Hid (∃ S2, Tu W v2 a S2 q.ownBlock.toList ∧ Sc S S2 (1000 + ((i + 1 : Nat) : Int)) ∧ OwnI v2 W.heap.size q S'.D) := ⟨_, u2, by have := H2.out.2.2.1; rw [show 1000 + ((i + 1 : Nat) : Int) = 1000 + (i : Int) + 1 by omega]; exact this, j2.own H3.out (fun g hg => by simp [hg])⟩
                  clear hA u2 j2 H3 H2
                  go_wp2
                  go_roundw
                  case rel => exact ⟨i + 1, by omega, by go_num, HE⟩
                  case measure => simp [intOf]; omega
            · obtain rfl : i = m := by omega
              obtain ⟨S2, u1, s1, o1⟩ := HQ.out
              obtain ⟨pq, cq, hqs⟩ := o1.shape
              obtain ⟨n2, hn2⟩ : ∃ n, n = S'.D.length := ⟨_, rfl⟩
              rw [← hn2] at hqs
              have hI := o1.ints
              rw [hqs] at hI
              obtain ⟨g1, g, g2, g3, g4, g5, g6, g7, g8⟩ := hI
              have e1 : pq = g1 := by simp at g3; exact g3.1
              have hS2D : S2.D = S'.D := s1.D.trans HD.out.1.symm
              have hn64' : n2 ≤ 64 := by rw [hn2, HD.out.1]; exact HD.out.2.2
              have HI : Hid (n2 = S'.D.length ∧ (0 < n2 → pq = some ⟨g, 0, none⟩) ∧ (∀ j, j < n2 → wx.cell? ⟨g, j, none⟩ = some (.int .i64 (S'.D.getD j 0))) ∧ Tu W wx a S2 q.ownBlock.toList ∧ S2.D = S'.D) := ⟨hn2, fun h => by rw [e1]; exact g6 (by omega), fun j hj => g8 j (by omega), u1, hS2D⟩
              have hle : d ≤ S.Z := by rw [HD.out.2.1]; exact HS.out.2.dl
              obtain ⟨z, hz⟩ : ∃ z, z = S.Z := ⟨_, rfl⟩
              rw [← hz] at hle
              have HZ := hid (And.intro hz hle)
              have hcq : n2 ≤ cq := by
                have e2 : cq = g2 := by simp at g3; exact g3.2.2
                omega
              rw [hqs]
              clear HQ u1 s1 o1 hqs hn2 g3 g4 g5 g6 g7 g8 e1 hS2D
              rw [← hz]
              clear hz
              go_wp2_with fail
              go_loopw [24, 25, 26, 118] (fun _ _ _ i wy => ∃ k : Nat, k ≤ n2 ∧ i = .int .i64 k ∧ wy = wx) (fun _ _ _ i _ => n2 - (intOf i).toNat)
              case atStart => exact ⟨0, by omega, rfl, rfl⟩
              case round =>
                obtain ⟨k, hk, rfl, hw⟩ := hrel
                rw [hw]
                clear hw
                by_cases hlt : k < n2
                · obtain rfl := HI.out.2.1 (by omega)
                  have d0 := HI.out.2.2.1 k hlt
                  have hk3 : (k : Int) < (n2 : Int) := by omega
                  obtain ⟨y, hy⟩ : ∃ y, y = S'.D.getD k 0 := ⟨_, rfl⟩
                  rw [← hy] at d0
                  have hil : k < S'.D.length := by have := HI.out.1; omega
                  have hyD : y ∈ S2.D := by rw [HI.out.2.2.2.2, at_split hil, ← hy]; simp
                  have hHas := HI.out.2.2.2.1.has y
                  rw [decide_eq_true hyD] at hHas
                  clear hy hil hyD
                  go_wp2_with fail
                  refine hHas.mono ?_; rintro e v3 ⟨rfl, rfl⟩
                  clear hHas
                  go_wp2
                  go_roundw
                  case rel => exact ⟨k + 1, by omega, by go_num, trivial⟩
                  case measure => simp [intOf]; omega
                · obtain rfl : k = n2 := by omega
                  have HE := hid (HK.out.trans HI.out.2.2.2.1.k)
                  clear HI
                  go_wp2
                  go_ret
                  exact ⟨by simp, HE.out⟩

set_option maxRecDepth 100000 in
theorem lifted (os : Os) (started : os.Started) (H : Type) (enc : TypeId × Value → H) :
    ReturnsInHanded {} Try.checked os 5 .any (Rows.turnScanSpec.pre6 enc Try.prog Try.f5 Rows.turnScanRow.domain false) (Rows.turnScanSpec.post enc Try.prog Try.f5 false true false false) := by
  refine returnsInHanded_of_change (C := Try.checked) own started (by kernel_rfl) Try.func5
    (ChangeSpec.witness6 (enc := enc) (C := Try.checked) false ⟨#[], #[.agg #[.int .i64 0, .int .i64 0], .slice none 0 0, .int .i64 0], []⟩ 8 (by kernel_rfl) (by kernel_rfl) (by kernel_rfl) (by kernel_rfl)) ?_
  intro W base args ds gs before hval0 hW hcnd _
  have hval : ∀ (j : Nat) t v, Try.f5.params[j]? = some t → args[j]? = some v → Value.okWide Try.prog W .any base t v := hval0
  have hW' := hW
  have hlt := hW.lt
  obtain ⟨p, q, hA0, hV, rfl, hfz, hnd⟩ := hW
  have hA : DataW.TrodAll enc Try.prog W 0 (fun _ => true) true Try.f5.params.toList args.toList ds p := hA0
  have hAk := hA
  rw [Try.params5] at hA hval
  obtain ⟨v0, vs0, d0, ds0, p0, q0, hargs, rfl, rfl, h0, r0⟩ := trodAll_cons hA
  obtain ⟨v1, vs1, d1, ds1, p1, q1, rfl, rfl, rfl, h1, r1⟩ := trodAll_cons r0
  obtain ⟨v2, vs2, d2, ds2, p2, q2, rfl, rfl, rfl, h2, r2⟩ := trodAll_cons r1
  obtain ⟨rfl, rfl, rfl⟩ := trodAll_nil r2
  obtain rfl : args = #[v0, v1, v2] := by cases args; simp_all
  obtain ⟨rfl, rfl⟩ := trodVars_none hV
  obtain ⟨a0, b0, rfl, w0, x0⟩ := open_ints2 Try.underlying45 Try.underlying3 cellsI cellsJ (hval 0 45 v0 rfl rfl) h0
  obtain ⟨l1, w1⟩ := open_as23 (hval 1 22 v1 rfl rfl) h1
  obtain ⟨a2, rfl, rfl, rfl, w2⟩ := open_int Try.underlying3 (hval 2 3 v2 rfl rfl) h2
  clear hA0 hval0
  simp only [List.append_nil] at hW' hAk hlt
  refine (walk W a0 b0 v1 l1 a2 w0 x0 w1 w2).mono fun e W' ⟨he, hg⟩ => ?_
  subst he
  exact ⟨_, rfl, post_kp (pv := []) hW' (fun _ _ _ => (trodAll_cons_mk (shut_bool Try.underlying4 _) trodAll_mk0)) (fun sp hsp => trodAll_stays laidOut (by rw [Try.params5]; exact of_decide_eq_true (by kernel_rfl)) hAk (fun x hx => Below.same hg (hlt x hx)) hsp) (fun _ _ => rfl) (by simp) hg⟩

theorem over : Rows.turnScanRow.holds Try.pinned (OpenSpec.ofChange Rows.turnScanSpec) :=
  OpenClaim.holds_of_wide 5 Try.f5 rfl rfl rfl rfl rfl rfl rfl ⟨rfl, rfl, rfl, rfl, rfl⟩ rfl rfl rfl rfl rfl (by kernel_rfl) Try.func5 (by kernel_rfl)
    (of_decide_eq_true (by kernel_rfl)) (by unfold Func.isWrapper; first | (rw [if_pos (by decide +kernel)]; kernel_rfl) | (rw [if_neg (by decide +kernel)]; exact ⟨rfl, rfl⟩))
    (fun os started H enc _ => lifted os started H enc)

end Go.Proofs.Yteiangakgfekgaa.turnScan
namespace Go.Proofs.Yteiangakgfekgaa
theorem turnScan_holds : Rows.TurnScanSaid := turnScan.over
end Go.Proofs.Yteiangakgfekgaa
