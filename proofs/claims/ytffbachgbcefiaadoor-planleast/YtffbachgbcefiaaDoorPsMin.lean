/-
  Contract of slices.MinFunc on a list of plans, by how many columns they read. Condition: that the list isn't empty, and has at most a hundred.
-/
import Derived.Test.YtffbachgbcefiaaDoorPsCmp
namespace Go.Proofs.YtffbachgbcefiaaDoor
open Go.RowKit Plain
set_option linter.unusedVariables false
set_option linter.unusedSimpArgs false

/-- the first of the least among the first of a list. -/
def mnI (L : List Pn) : Nat → Pn
  | 0 => L.getD 0 (0, noF)
  | j + 1 => if cn 256 (L.getD (j + 1) (0, noF)).2 < cn 256 (mnI L j).2 then L.getD (j + 1) (0, noF) else mnI L j
theorem cp_lt (x y : Nat) : cpI (x : Int) (y : Int) < 0 ↔ x < y := by
  unfold cpI
  by_cases h : (x : Int) < (y : Int)
  · rw [if_pos h]; constructor <;> intro _ <;> omega
  · rw [if_neg h]
    by_cases h2 : (y : Int) < (x : Int)
    · rw [if_pos h2]; constructor <;> intro _ <;> omega
    · rw [if_neg h2]; constructor <;> intro _ <;> omega
def pZp : Pn := (0, noF)
theorem pZ_is : pZ = pV pZp := by
  unfold pZ pV pA pZp
  rw [no_word, no_word, no_word, no_word]; rfl
theorem range_kept {w w' : World} {b o : Nat} {cs : List Value} (h : w.rangeAt b o cs) (k : Kp w w') : w'.rangeAt b o cs := fun j v hj => k.held (h j v hj)
theorem yl_plan {ops : Array Oper} {S : World → Prop} {op : Oper} {a : Act} {b o : Nat} {p : Pn} {x : Operand} (hw : Region.wanted op (yielded ops a.tmps) = true) (ho : op.op = .load 45 x)
    (hx : a.eval x = .pointer (some ⟨b, o, none⟩)) (hS : ∀ w, S w → w.rangeAt b o (pA p).toList) : YieldsIf Tryd.prog ops S op (pV p) a :=
  yieldsIf_load_mid hw _ x ho b o hx (pA p).toList _ hS Tryd.underlying45 rfl (by rw [psize]; rfl)
/-- the two variables of MinFunc: its result, the least so far. -/
structure Im (w X : World) (p : Pn) : Prop where
  r : Px X w.heap.size pZp
  m : Px X (w.heap.size + 1) p
  kp : Kp w X
theorem Im.kept {w X X' : World} {p : Pn} (h : Im w X p) (k : Kp X X') : Im w X' p := ⟨h.r.kept k, h.m.kept k, h.kp.trans k⟩
theorem Im.put {w X : World} {p : Pn} (h : Im w X p) (q : Pn) : Im w (X.setCells (w.heap.size + 1) 0 (pA q).toList) q := ⟨h.r.far (by omega) 0 _, h.m.set q, kp_setCells h.kp _ _ (by omega) _⟩
set_option maxRecDepth 100000 in
set_option maxHeartbeats 8000000 in
theorem min_any (g n c : Nat) (L : List Pn) (hn : n = L.length) (h0 : 0 < n) (h100 : n ≤ 100) (hc : n ≤ c) (hc2 : c ≤ 9223372036854775807) (w : World) (hr : ∀ i, i < n → w.rangeAt g (i * 5) (pA (L.getD i (0, noF))).toList) :
    Calls Tryd.prog 28 #[.slice (some ⟨g, 0, none⟩) n c, .func (.func 29) #[] #[]] w fun e w' => e = .returned (pV (mnI L (n - 1))) ∧ Kp w w' := by
  obtain ⟨w0, hw0⟩ : ∃ w0, w0 = w.alloc (.cells (pA pZp) 45) := ⟨_, rfl⟩
  have p0 : Px w0 w.heap.size pZp := by rw [hw0]; exact Px.new w pZp
  have k0 : Kp w w0 := by rw [hw0]; exact (Kp.refl w).alloc _
  obtain ⟨w1, hw1⟩ : ∃ w1, w1 = w0.alloc (.cells (pA pZp) 45) := ⟨_, rfl⟩
  have s1 : w0.heap.size = w.heap.size + 1 := by rw [hw0]; simp
  have i0 : Im w w1 pZp := by
    have h := Px.new w0 pZp
    rw [s1] at h
    rw [hw1]
    exact ⟨p0.kept ((Kp.refl _).alloc _), h, k0.alloc _⟩
  have hz : ∀ W, (zeroValue 45).run Tryd.prog W = .ok (pV pZp) W := fun W => by
    obtain ⟨i, hi, hz0, _⟩ := info_parts pinfo
    rw [pZ_is] at hz0
    simp [zeroValue, typeInfo, hi, hz0]
  have HW := hid (And.intro hw0 (And.intro hw1 s1))
  have HR := hid hr
  have i1 := i0.put (L.getD 0 (0, noF))
  obtain ⟨w2, hw2⟩ : ∃ w2, w2 = w1.setCells (w.heap.size + 1) 0 (pA (L.getD 0 (0, noF))).toList := ⟨_, rfl⟩
  have HW2 := hid hw2
  have hI1 := hid (show Im w w2 (L.getD 0 (0, noF)) by rw [hw2]; exact i1)
  have hr0 := hid (range_kept (hr 0 h0) k0)
  have hth := hid i0.m.there
  have hni : (1 : Int) ≤ (n : Int) := by omega
  have hn1 : ¬ ((n : Int) < 1) := by omega
  clear hw0 hw1 hr i1 hw2 i0 p0 s1
  go_enter Tryd.func28, Tryd.ntmps28
  go_upto_region 1 with fail
  change Code.wp _ _ _ _ (w.alloc (.cells (pA pZp) 45))
  rw [← show w0 = w.alloc (.cells (pA pZp) 45) from HW.out.1]
  go_wp2_with (first
    | (refine wl_pload rfl rfl rfl (o := 0) (by have := hr0.out; rwa [Nat.zero_mul] at this) ?_)
    | (change wpList _ _ _ _ _ (w0.alloc (.cells (pA pZp) 45)); rw [← show w1 = w0.alloc (.cells (pA pZp) 45) from HW.out.2.1, HW.out.2.2]; refine wl_pstore rfl rfl rfl (p := L.getD 0 (0, noF)) rfl rfl hth.out ?_; rw [← show w2 = w1.setCells (w.heap.size + 1) 0 (pA (L.getD 0 (0, noF))).toList from HW2.out]))
  clear HW hr0 hth HW2 hz k0
  go_loopw [6] (fun i wr => ∃ j : Nat, 1 ≤ j ∧ j ≤ n ∧ i = .int .i64 j ∧ Hid (Im w wr (mnI L (j - 1)))) (fun i _ => n - (intOf i).toNat)
  case atStart => exact ⟨1, by omega, by omega, by go_num, hI1⟩
  case round =>
    clear hI1 hn1 hni
    obtain ⟨j, hj1, hj, rfl, HQ⟩ := hrel
    rename World => wr
    by_cases hjn : j < n
    · obtain ⟨p, hp⟩ : ∃ p, p = L.getD j (0, noF) := ⟨_, rfl⟩
      obtain ⟨m, hm⟩ : ∃ m, m = mnI L (j - 1) := ⟨_, rfl⟩
      have hrp : ∀ X, Kp w X → X.rangeAt g (j * 5) (pA p).toList := fun X k => by rw [hp]; exact range_kept (HR.out j hjn) k
      have hstep := hid (show mnI L j = if cn 256 p.2 < cn 256 m.2 then p else m by rw [hp, hm]; obtain ⟨q, rfl⟩ : ∃ q, j = q + 1 := ⟨j - 1, by omega⟩; rfl)
      rw [← hm] at HQ
      have h1 : Im w wr.drew m := HQ.out.kept (Kp.refl _).drew
      have hji : (j : Int) < (n : Int) := by omega
      have hj0 : (0 : Int) ≤ (j : Int) := by omega
      have hjt : ((j : Int)).toNat = j := by omega
      clear hm hp HR
      by_cases hlt : cn 256 p.2 < cn 256 m.2
      · have hcl : cpI (cn 256 p.2 : Nat) (cn 256 m.2 : Nat) < 0 := (cp_lt _ _).2 hlt
        have HS : Hid (mnI L j = p) := by have := hstep.out; rwa [if_pos hlt] at this
        clear hstep hlt HQ
        have HH := hid (And.intro hrp (And.intro hcl (And.intro hj0 (And.intro hjt h1))))
        clear hrp hcl hj0 hjt h1
        go_upto_region 7 with fail
        obtain ⟨hrp, hcl, hj0, hjt, h1⟩ := HH.out
        clear HH
        refine wp_region_held_drew (S := fun X => Im w X m) (by kernel_rfl) (h1) (fun hHeld => ?_)
        change wpAnyH _ _ _ _ _ 8 #[false, false, false, false, false, false, false, false] _ _
        refine wpAnyH_takeD (i := 0) (oi := _) (v := ?_) 20 rfl (by rfl) (by kernel_rfl) (by kernel_rfl) (by kernel_rfl) (fun _ _ _ h => h) (.inl ⟨by rfl, ?_⟩) (by assumption) ?_
        rotate_left; ((intro w hSw; (try dsimp only at hSw); go_simp); first | done | with_reducible rfl)
        try simp only [Act.put, List.setIfInBounds_toArray, List.set_cons_zero, List.set_cons_succ]
        change wpAnyH _ _ _ _ _ 7 #[true, false, false, false, false, false, false, false] _ _
        refine wpAnyH_takeD (i := 1) (oi := _) (v := ?_) 21 rfl (by rfl) (by kernel_rfl) (by kernel_rfl) (by kernel_rfl) (fun _ _ _ h => h) (.inl ⟨by rfl, ?_⟩) (by assumption) ?_
        rotate_left; ((intro w hSw; (try dsimp only at hSw); go_simp); first | done | with_reducible rfl)
        try simp only [Act.put, List.setIfInBounds_toArray, List.set_cons_zero, List.set_cons_succ]
        change wpAnyH _ _ _ _ _ 6 #[true, true, false, false, false, false, false, false] _ _
        refine wpAnyH_takeD (i := 2) (oi := _) (v := ?_) 22 rfl (by rfl) (by kernel_rfl) (by kernel_rfl) (by kernel_rfl) (fun _ _ _ h => h) (.inl ⟨by rfl, ?_⟩) (by assumption) ?_
        rotate_left; ((intro w hSw; (try dsimp only at hSw); go_simp); first | done | with_reducible rfl)
        try simp only [Act.put, List.setIfInBounds_toArray, List.set_cons_zero, List.set_cons_succ]
        change wpAnyH _ _ _ _ _ 5 #[true, true, true, false, false, false, false, false] _ _
        refine wpAnyH_takeD (i := 3) (oi := _) (v := ?_) 23 rfl (by rfl) (by kernel_rfl) (by kernel_rfl) (by kernel_rfl) (fun _ _ _ h => h) (.inl ⟨by rfl, ?_⟩) (by assumption) ?_
        rotate_left; ((intro w hSw; (try dsimp only at hSw); go_simp); first | done | with_reducible rfl)
        try simp only [Act.put, List.setIfInBounds_toArray, List.set_cons_zero, List.set_cons_succ]
        change wpAnyH _ _ _ _ _ 4 #[true, true, true, true, false, false, false, false] _ _
        refine wpAnyH_takeD (i := 4) (oi := _) (v := _) 24 rfl (by rfl) (by kernel_rfl) (by kernel_rfl) (by kernel_rfl) (fun _ _ _ h => h) (yl_plan (by rfl) (by rfl) (by rfl) (fun X h => hrp X h.kp)) (by assumption) ?_
        try simp only [Act.put, List.setIfInBounds_toArray, List.set_cons_zero, List.set_cons_succ]
        change wpAnyH _ _ _ _ _ 3 #[true, true, true, true, true, false, false, false] _ _
        refine wpAnyH_takeD (i := 5) (oi := _) (v := _) 25 rfl (by rfl) (by kernel_rfl) (by kernel_rfl) (by kernel_rfl) (fun _ _ _ h => h) (yl_plan (by rfl) (by rfl) (by rfl) (fun _ h => h.m.range)) (by assumption) ?_
        try simp only [Act.put, List.setIfInBounds_toArray, List.set_cons_zero, List.set_cons_succ]
        change wpAnyH _ _ _ _ _ 2 #[true, true, true, true, true, true, false, false] _ _
        refine wpAnyH_ready (rs := [6]) (by kernel_rfl) (by simp) ?_
        refine AllReadyH.cons (o := _) rfl ?_ ?_
        rotate_left; exact AllReadyH.nil
        intro K hK
        go_simp
        go_at_call 29
        refine (least_any p m _).mono ?_; rintro e X1 ⟨rfl, p1⟩
        have k1 := h1.kept p1
        refine hK.out _ _ (k1) (fun hHeld => ?_)
        clear hK K
        try simp only [Act.put, List.setIfInBounds_toArray, List.set_cons_zero, List.set_cons_succ]
        change wpAnyH _ _ _ _ _ 1 #[true, true, true, true, true, true, true, false] _ _
        refine wpAnyH_takeD (i := 7) (oi := _) (v := ?_) 27 rfl (by rfl) (by kernel_rfl) (by kernel_rfl) (by kernel_rfl) (fun _ _ _ h => h) (.inl ⟨by rfl, ?_⟩) (by assumption) ?_
        rotate_left; ((intro w hSw; (try dsimp only at hSw); go_simp); first | done | with_reducible rfl)
        try simp only [Act.put, List.setIfInBounds_toArray, List.set_cons_zero, List.set_cons_succ]
        change wpAnyH _ _ _ _ _ 0 #[true, true, true, true, true, true, true, true] _ _
        refine wpAnyH_done (by kernel_rfl) ?_ _
        have k9 := k1
        have hrj := hid (hrp _ k9.kp)
        have hth := hid k9.m.there
        obtain ⟨V, hV⟩ : ∃ V, V = X1.setCells (w.heap.size + 1) 0 (pA p).toList := ⟨_, rfl⟩
        have HN : Hid (Im w V p) := by show Im w V p; rw [hV]; exact k9.put p
        have HV := hid hV
        clear hrp hcl k9 h1 hV
        go_wp2_with (first
          | (refine wl_pload rfl rfl rfl hrj.out ?_)
          | (refine wl_pstore rfl rfl rfl (p := p) rfl rfl hth.out ?_; rw [← show V = X1.setCells (w.heap.size + 1) 0 (pA p).toList from HV.out]))
        go_roundw
        case rel => exact ⟨j + 1, by omega, by omega, by go_num, by rw [show j + 1 - 1 = j by omega, HS.out]; exact HN⟩
        case measure => simp [intOf]; omega
      · have hcl : ¬ cpI (cn 256 p.2 : Nat) (cn 256 m.2 : Nat) < 0 := fun h => hlt ((cp_lt _ _).1 h)
        have HS : Hid (mnI L j = m) := by have := hstep.out; rwa [if_neg hlt] at this
        clear hstep hlt HQ
        have HH := hid (And.intro hrp (And.intro hcl (And.intro hj0 (And.intro hjt h1))))
        clear hrp hcl hj0 hjt h1
        go_upto_region 7 with fail
        obtain ⟨hrp, hcl, hj0, hjt, h1⟩ := HH.out
        clear HH
        refine wp_region_held_drew (S := fun X => Im w X m) (by kernel_rfl) (h1) (fun hHeld => ?_)
        change wpAnyH _ _ _ _ _ 8 #[false, false, false, false, false, false, false, false] _ _
        refine wpAnyH_takeD (i := 0) (oi := _) (v := ?_) 20 rfl (by rfl) (by kernel_rfl) (by kernel_rfl) (by kernel_rfl) (fun _ _ _ h => h) (.inl ⟨by rfl, ?_⟩) (by assumption) ?_
        rotate_left; ((intro w hSw; (try dsimp only at hSw); go_simp); first | done | with_reducible rfl)
        try simp only [Act.put, List.setIfInBounds_toArray, List.set_cons_zero, List.set_cons_succ]
        change wpAnyH _ _ _ _ _ 7 #[true, false, false, false, false, false, false, false] _ _
        refine wpAnyH_takeD (i := 1) (oi := _) (v := ?_) 21 rfl (by rfl) (by kernel_rfl) (by kernel_rfl) (by kernel_rfl) (fun _ _ _ h => h) (.inl ⟨by rfl, ?_⟩) (by assumption) ?_
        rotate_left; ((intro w hSw; (try dsimp only at hSw); go_simp); first | done | with_reducible rfl)
        try simp only [Act.put, List.setIfInBounds_toArray, List.set_cons_zero, List.set_cons_succ]
        change wpAnyH _ _ _ _ _ 6 #[true, true, false, false, false, false, false, false] _ _
        refine wpAnyH_takeD (i := 2) (oi := _) (v := ?_) 22 rfl (by rfl) (by kernel_rfl) (by kernel_rfl) (by kernel_rfl) (fun _ _ _ h => h) (.inl ⟨by rfl, ?_⟩) (by assumption) ?_
        rotate_left; ((intro w hSw; (try dsimp only at hSw); go_simp); first | done | with_reducible rfl)
        try simp only [Act.put, List.setIfInBounds_toArray, List.set_cons_zero, List.set_cons_succ]
        change wpAnyH _ _ _ _ _ 5 #[true, true, true, false, false, false, false, false] _ _
        refine wpAnyH_takeD (i := 3) (oi := _) (v := ?_) 23 rfl (by rfl) (by kernel_rfl) (by kernel_rfl) (by kernel_rfl) (fun _ _ _ h => h) (.inl ⟨by rfl, ?_⟩) (by assumption) ?_
        rotate_left; ((intro w hSw; (try dsimp only at hSw); go_simp); first | done | with_reducible rfl)
        try simp only [Act.put, List.setIfInBounds_toArray, List.set_cons_zero, List.set_cons_succ]
        change wpAnyH _ _ _ _ _ 4 #[true, true, true, true, false, false, false, false] _ _
        refine wpAnyH_takeD (i := 4) (oi := _) (v := _) 24 rfl (by rfl) (by kernel_rfl) (by kernel_rfl) (by kernel_rfl) (fun _ _ _ h => h) (yl_plan (by rfl) (by rfl) (by rfl) (fun X h => hrp X h.kp)) (by assumption) ?_
        try simp only [Act.put, List.setIfInBounds_toArray, List.set_cons_zero, List.set_cons_succ]
        change wpAnyH _ _ _ _ _ 3 #[true, true, true, true, true, false, false, false] _ _
        refine wpAnyH_takeD (i := 5) (oi := _) (v := _) 25 rfl (by rfl) (by kernel_rfl) (by kernel_rfl) (by kernel_rfl) (fun _ _ _ h => h) (yl_plan (by rfl) (by rfl) (by rfl) (fun _ h => h.m.range)) (by assumption) ?_
        try simp only [Act.put, List.setIfInBounds_toArray, List.set_cons_zero, List.set_cons_succ]
        change wpAnyH _ _ _ _ _ 2 #[true, true, true, true, true, true, false, false] _ _
        refine wpAnyH_ready (rs := [6]) (by kernel_rfl) (by simp) ?_
        refine AllReadyH.cons (o := _) rfl ?_ ?_
        rotate_left; exact AllReadyH.nil
        intro K hK
        go_simp
        go_at_call 29
        refine (least_any p m _).mono ?_; rintro e X1 ⟨rfl, p1⟩
        have k1 := h1.kept p1
        refine hK.out _ _ (k1) (fun hHeld => ?_)
        clear hK K
        try simp only [Act.put, List.setIfInBounds_toArray, List.set_cons_zero, List.set_cons_succ]
        change wpAnyH _ _ _ _ _ 1 #[true, true, true, true, true, true, true, false] _ _
        refine wpAnyH_takeD (i := 7) (oi := _) (v := ?_) 27 rfl (by rfl) (by kernel_rfl) (by kernel_rfl) (by kernel_rfl) (fun _ _ _ h => h) (.inl ⟨by rfl, ?_⟩) (by assumption) ?_
        rotate_left; ((intro w hSw; (try dsimp only at hSw); go_simp); first | done | with_reducible rfl)
        try simp only [Act.put, List.setIfInBounds_toArray, List.set_cons_zero, List.set_cons_succ]
        change wpAnyH _ _ _ _ _ 0 #[true, true, true, true, true, true, true, true] _ _
        refine wpAnyH_done (by kernel_rfl) ?_ _
        have k9 := k1
        have HN := hid k9
        clear hrp hcl k9 h1
        go_wp2
        go_roundw
        case rel => exact ⟨j + 1, by omega, by omega, by go_num, by rw [show j + 1 - 1 = j by omega, HS.out]; exact HN⟩
        case measure => simp [intOf]; omega
    · obtain rfl : j = n := by omega
      obtain ⟨m, hm⟩ : ∃ m, m = mnI L (j - 1) := ⟨_, rfl⟩
      rw [← hm] at HQ
      have hI := HQ.out
      have hrg := hid hI.m.range
      have hth := hid hI.r.there
      obtain ⟨V, hV⟩ : ∃ V, V = wr.setCells w.heap.size 0 (pA m).toList := ⟨_, rfl⟩
      have HE : Hid (Px V w.heap.size m ∧ Kp w V) := by show _ ∧ _; rw [hV]; exact And.intro (hI.r.set m) (kp_setCells hI.kp w.heap.size 0 (Nat.le_refl _) (pA m).toList)
      have HV := hid hV
      clear hV
      have HM := hid hm
      clear HQ HR hI hm
      go_wp2_with (first
        | (refine wl_pload rfl rfl rfl hrg.out ?_)
        | (refine wl_pstore rfl rfl rfl (p := m) rfl rfl hth.out ?_; rw [← show V = wr.setCells w.heap.size 0 (pA m).toList from HV.out]))
      refine bodyPost_ret (res_cell rfl _ _ w.heap.size (pA m) rfl HE.out.1.range Tryd.underlying45 rfl (by rw [psize]; rfl)) rfl ?_
      exact ⟨by rw [← HM.out]; rfl, HE.out.2⟩

end Go.Proofs.YtffbachgbcefiaaDoor
