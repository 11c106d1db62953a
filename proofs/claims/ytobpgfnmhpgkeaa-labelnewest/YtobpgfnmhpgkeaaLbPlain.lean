/-
  Labels, in plain arithmetic: which are good (lg), the bytes of a label's sector (pb sb ptS), what a sector says (prs), whether it is a label (gtE gtL), which stripes are whole (wh), how many members are missing (ms), the newest one (nw). A good label is read back; two sectors that part in one byte at most are one. No condition.
-/
import Derived.Test.YtobpgfnmhpgkeaaGmPlain
import Derived.Test.YtobpgfnmhpgkeaaCrcBits
namespace Go.Proofs.Ytobpgfnmhpgkeaa
open Go.RowKit Plain
set_option linter.unusedVariables false

structure LB where
  n : Int
  s : Int
  ep : Int
  sts : List Int
  mks : List Int
def noL : LB := ⟨0, 0, 0, [], []⟩
/-- may a member of that state have that mark? -/
def mh (st mk s : Int) : Bool := if st = 0 ∨ st = 1 then decide (mk = 0) else if st = 2 then decide (0 ≤ mk ∧ mk < s) else false
/-- are the members good up to the k-th? -/
def mg (L : LB) (k : Nat) : Bool := decide (∀ i, i < k → mh (L.sts.getD i 0) (L.mks.getD i 0) L.s = true)
theorem mg_iff (L : LB) (k : Nat) : mg L k = true ↔ ∀ i, i < k → mh (L.sts.getD i 0) (L.mks.getD i 0) L.s = true := by simp [mg]
theorem mg_zero (L : LB) : mg L 0 = true := (mg_iff L 0).2 (fun i hi => absurd hi (by omega))
theorem mg_step (L : LB) (k : Nat) (h : mg L k = true) : mg L (k + 1) = mh (L.sts.getD k 0) (L.mks.getD k 0) L.s := by
  cases e : mh (L.sts.getD k 0) (L.mks.getD k 0) L.s with
  | true =>
    rw [mg_iff] at h ⊢
    intro i hi
    by_cases hk : i = k
    · rw [hk]; exact e
    · exact h i (by omega)
  | false =>
    rw [Bool.eq_false_iff, ne_eq, mg_iff]
    intro hh
    rw [hh k (by omega)] at e
    cases e
theorem mg_not (L : LB) (k m : Nat) (h : mg L k = false) (hk : k ≤ m) : mg L m = false := by
  rw [Bool.eq_false_iff, ne_eq, mg_iff] at h ⊢
  exact fun hh => h (fun i hi => hh i (by omega))
def lg (L : LB) : Bool := gg L.n L.s && decide (1 ≤ L.ep) && decide (L.ep ≤ 9007199254740992) && decide ((L.sts.length : Int) = L.n) && decide ((L.mks.length : Int) = L.n) && mg L L.sts.length
theorem lg_iff (L : LB) : lg L = true ↔ gg L.n L.s = true ∧ 1 ≤ L.ep ∧ L.ep ≤ 9007199254740992 ∧ (L.sts.length : Int) = L.n ∧ (L.mks.length : Int) = L.n ∧ mg L L.sts.length = true := by
  unfold lg
  simp only [Bool.and_eq_true, decide_eq_true_eq]
  constructor
  · rintro ⟨⟨⟨⟨⟨a, b⟩, c⟩, d⟩, e⟩, f⟩
    exact ⟨a, b, c, d, e, f⟩
  · rintro ⟨a, b, c, d, e, f⟩
    exact ⟨⟨⟨⟨⟨a, b⟩, c⟩, d⟩, e⟩, f⟩
theorem mh_bd {st mk s : Int} (h : mh st mk s = true) (hs : 1 ≤ s) : 0 ≤ st ∧ st ≤ 2 ∧ 0 ≤ mk ∧ mk < s ∧ (0 < mk → st = 2) := by
  unfold mh at h
  split at h
  · rename_i h1
    have h2 := of_decide_eq_true h
    omega
  · split at h
    · have h2 := of_decide_eq_true h
      omega
    · cases h
theorem mh_of {st mk s : Int} (h1 : 0 ≤ st) (h2 : st ≤ 2) (h3 : 0 ≤ mk) (h4 : mk < s) (h5 : 0 < mk → st = 2) : mh st mk s = true := by
  unfold mh
  split
  · exact decide_eq_true (by omega)
  · rw [if_pos (by omega)]; exact decide_eq_true ⟨h3, h4⟩

/-! ### the sector -/
def tr (i : Nat) : Nat := [84, 82, 85, 78].getD i 0
theorem tr_lt (i : Nat) : tr i < 256 := by
  by_cases h : i < 4
  · have h : i = 0 ∨ i = 1 ∨ i = 2 ∨ i = 3 := by omega
    rcases h with rfl | rfl | rfl | rfl <;> decide
  · unfold tr
    rw [List.getD_eq_getElem?_getD, List.getElem?_eq_none (by simp; omega)]
    decide
/-- the byte at i of a number in m bytes, the highest first. -/
def be (x m i : Nat) : Nat := x / 256 ^ (m - 1 - i) % 256
theorem be_lt (x m i : Nat) : be x m i < 256 := Nat.mod_lt _ (by omega)
def mb (L : LB) (i : Nat) : Nat := (L.sts.getD i 0 * 64 + L.mks.getD i 0).toNat
def pb (L : LB) (i : Nat) : Nat := if i < 4 then tr i else if i < 12 then be L.ep.toNat 8 (i - 4) else if i = 12 then L.n.toNat else if i = 13 then L.s.toNat else if i < 14 + L.sts.length then mb L (i - 14) else 0
def sb (L : LB) (i : Nat) : Nat := if i < 46 then pb L i else if i < 50 then be (smN (pb L) 46) 4 (i - 46) else 0
def ptS (L : LB) : ByteArray := bs 64 (sb L)
def puS (L : LB) : ByteArray := if lg L = true then ptS L else noS
def puE (L : LB) : Int := if lg L = true then 0 else 4
structure GL (L : LB) : Prop where
  n1 : 4 ≤ L.n
  n2 : L.n ≤ 32
  s1 : 1 ≤ L.s
  s2 : L.s ≤ 64
  e1 : 1 ≤ L.ep
  e2 : L.ep ≤ 9007199254740992
  l1 : (L.sts.length : Int) = L.n
  l2 : (L.mks.length : Int) = L.n
  m : ∀ i, i < L.sts.length → 0 ≤ L.sts.getD i 0 ∧ L.sts.getD i 0 ≤ 2 ∧ 0 ≤ L.mks.getD i 0 ∧ L.mks.getD i 0 < 64
theorem lg_gl {L : LB} (h : lg L = true) : GL L := by
  obtain ⟨a, b, c, d, e, f⟩ := (lg_iff L).1 h
  obtain ⟨g1, g2, g3, g4⟩ := (gg_iff _ _).1 a
  refine ⟨g1, g2, g3, g4, b, c, d, e, fun i hi => ?_⟩
  have := mh_bd ((mg_iff L _).1 f i hi) g3
  omega
theorem mb_lt {L : LB} (h : GL L) (i : Nat) (hi : i < L.sts.length) : mb L i < 256 := by
  have := h.m i hi
  unfold mb; omega
theorem pb_lt {L : LB} (h : GL L) (i : Nat) : pb L i < 256 := by
  have h1 := h.n2
  have h2 := h.s2
  unfold pb
  split
  · exact tr_lt i
  · split
    · exact be_lt _ _ _
    · split
      · omega
      · split
        · omega
        · split
          · exact mb_lt h _ (by omega)
          · omega
theorem sb_lt {L : LB} (h : GL L) (i : Nat) : sb L i < 256 := by
  unfold sb
  split
  · exact pb_lt h i
  · split
    · exact be_lt _ _ _
    · omega
theorem ptS_size (L : LB) : (ptS L).size = 64 := bs_size _ _
theorem ptS_at {L : LB} (h : GL L) (i : Nat) (hi : i < 64) : bf (ptS L) i = sb L i := bAt_bs 64 _ i hi (sb_lt h i)
theorem sm_pt {L : LB} (h : GL L) : smN (bf (ptS L)) 46 = smN (pb L) 46 := by
  unfold smN mrN
  rw [rgS_congr (g := pb L) _ _ (fun i hi => by rw [ptS_at h i (by omega)]; unfold sb; rw [if_pos hi])]

/-! ### numbers out of bytes -/
def nmN (f : Nat → Nat) : Nat → Nat
  | 0 => 0
  | k + 1 => 256 * nmN f k + f k
theorem nmN_lt (f : Nat → Nat) (hf : ∀ i, f i < 256) : ∀ k, nmN f k < 256 ^ k
  | 0 => by simp [nmN]
  | k + 1 => by
    have h1 := nmN_lt f hf k
    have h2 := hf k
    simp only [nmN]
    rw [Nat.pow_succ]; omega
theorem nmN_congr {f g : Nat → Nat} : ∀ k, (∀ i, i < k → f i = g i) → nmN f k = nmN g k
  | 0, _ => rfl
  | k + 1, h => by simp only [nmN]; rw [nmN_congr k (fun i hi => h i (by omega)), h k (by omega)]
theorem nmN_be (x m : Nat) : ∀ k, k ≤ m → nmN (be x m) k = x % 256 ^ m / 256 ^ (m - k)
  | 0, _ => by
    simp only [nmN, Nat.sub_zero]
    exact (Nat.div_eq_of_lt (Nat.mod_lt _ (Nat.pow_pos (by omega)))).symm
  | k + 1, hk => by
    have ih := nmN_be x m k (by omega)
    simp only [nmN]
    rw [ih]
    unfold be
    have e1 : m - 1 - k = m - (k + 1) := by omega
    have e2 : (256 : Nat) ^ (m - k) = 256 ^ (m - (k + 1)) * 256 := by rw [← Nat.pow_succ]; congr 1; omega
    have e3 : (256 : Nat) ^ m = 256 ^ (m - (k + 1)) * 256 ^ (k + 1) := by rw [← Nat.pow_add]; congr 1; omega
    rw [e1, e2, ← Nat.div_div_eq_div_mul]
    have e4 : x / 256 ^ (m - (k + 1)) % 256 = x % 256 ^ m / 256 ^ (m - (k + 1)) % 256 := by
      rw [e3, Nat.mod_mul_right_div_self, Nat.pow_succ, Nat.mul_comm (256 ^ k), Nat.mod_mul_right_mod]
    rw [e4]
    omega
theorem nmN_be_all (x m : Nat) (h : x < 256 ^ m) : nmN (be x m) m = x := by
  rw [nmN_be x m m (Nat.le_refl _), Nat.sub_self, Nat.pow_zero, Nat.div_one, Nat.mod_eq_of_lt h]

/-! ### what a sector says -/
def pfx : ByteArray := ⟨#[84, 82, 85, 78]⟩
def stL2 (s : ByteArray) (m : Nat) : List Int := (List.range m).map fun i => ((bf s (14 + i) / 64 : Nat) : Int)
def mkL2 (s : ByteArray) (m : Nat) : List Int := (List.range m).map fun i => ((bf s (14 + i) % 64 : Nat) : Int)
def epN (s : ByteArray) : Int := IntKind.i64.wrap ((nmN (fun i => bf s (4 + i)) 8 : Nat) : Int)
def prs (s : ByteArray) : LB := ⟨(bf s 12 : Nat), (bf s 13 : Nat), epN s, stL2 s (bf s 12), mkL2 s (bf s 12)⟩
def smE (s : ByteArray) : Prop := nmN (fun i => bf s (46 + i)) 4 = smN (bf s) 46
def okS (s : ByteArray) : Prop := lg (prs s) = true ∧ ptS (prs s) = s
open Classical in
noncomputable def gtE (s : ByteArray) : Int := if s.size = 64 ∧ s.extract 0 4 = pfx then (if smE s then (if okS s then 0 else 4) else 6) else 4
open Classical in
noncomputable def gtL (s : ByteArray) : LB := if gtE s = 0 then prs s else noL
theorem gtE_form {s : ByteArray} (h : ¬ (s.size = 64 ∧ s.extract 0 4 = pfx)) : gtE s = 4 := by unfold gtE; rw [if_neg h]
theorem gtE_sum {s : ByteArray} (h1 : s.size = 64) (h2 : s.extract 0 4 = pfx) (h : ¬ smE s) : gtE s = 6 := by unfold gtE; rw [if_pos ⟨h1, h2⟩, if_neg h]
theorem gtE_not {s : ByteArray} (h1 : s.size = 64) (h2 : s.extract 0 4 = pfx) (h3 : smE s) (h : ¬ okS s) : gtE s = 4 := by unfold gtE; rw [if_pos ⟨h1, h2⟩, if_pos h3, if_neg h]
theorem gtE_ok {s : ByteArray} (h1 : s.size = 64) (h2 : s.extract 0 4 = pfx) (h3 : smE s) (h : okS s) : gtE s = 0 := by unfold gtE; rw [if_pos ⟨h1, h2⟩, if_pos h3, if_pos h]
theorem gtL_ok {s : ByteArray} (h : gtE s = 0) : gtL s = prs s := by unfold gtL; rw [if_pos h]
theorem gtL_no {s : ByteArray} (h : gtE s ≠ 0) : gtL s = noL := by unfold gtL; rw [if_neg h]
theorem gtE_is {s : ByteArray} (h : gtE s = 0) : s.size = 64 ∧ okS s := by
  unfold gtE at h
  split at h
  · rename_i h1
    split at h
    · split at h
      · rename_i h3
        exact ⟨h1.1, h3⟩
      · cases h
    · cases h
  · cases h
theorem gtL_ep {s : ByteArray} (h : gtE s = 0) : 1 ≤ (gtL s).ep := by
  rw [gtL_ok h]
  exact (lg_gl (gtE_is h).2.1).e1

/-! ### there and back -/
theorem list_of (l : List Int) (m : Nat) (g : Nat → Int) (hl : l.length = m) (h : ∀ i, i < m → g i = l.getD i 0) : (List.range m).map g = l := by
  apply List.ext_getElem?
  intro i
  rw [List.getElem?_map]
  by_cases hi : i < m
  · rw [List.getElem?_range hi, List.getElem?_eq_getElem (by omega)]
    have := h i hi
    rw [List.getD_eq_getElem?_getD, List.getElem?_eq_getElem (by omega)] at this
    simpa using this
  · rw [List.getElem?_eq_none (by simpa using hi), List.getElem?_eq_none (by omega)]; rfl
theorem prs_pt {L : LB} (h : GL L) : prs (ptS L) = L := by
  obtain ⟨n1, n2, s1, s2, e1, e2, l1, l2, m⟩ := h
  have h : GL L := ⟨n1, n2, s1, s2, e1, e2, l1, l2, m⟩
  have b12 : bf (ptS L) 12 = L.n.toNat := by rw [ptS_at h 12 (by omega)]; rfl
  have b13 : bf (ptS L) 13 = L.s.toNat := by rw [ptS_at h 13 (by omega)]; rfl
  have bm : ∀ i, i < L.sts.length → bf (ptS L) (14 + i) = mb L i := fun i hi => by
    rw [ptS_at h _ (by omega)]
    unfold sb pb
    rw [if_pos (by omega), if_neg (by omega), if_neg (by omega), if_neg (by omega), if_neg (by omega), if_pos (by omega)]
    congr 1; omega
  have hep : epN (ptS L) = L.ep := by
    unfold epN
    rw [nmN_congr (g := be L.ep.toNat 8) 8 (fun i hi => by
      rw [ptS_at h _ (by omega)]
      unfold sb pb
      rw [if_pos (by omega), if_neg (by omega), if_pos (by omega)]
      congr 1; omega), nmN_be_all _ _ (by
        have : (256 : Nat) ^ 8 = 18446744073709551616 := by decide +kernel
        omega), IntKind.wrap_i64]
    omega
  have q1 : stL2 (ptS L) (bf (ptS L) 12) = L.sts := by
    rw [b12]
    refine list_of _ _ _ (by omega) (fun i hi => ?_)
    rw [bm i (by omega)]
    have := m i (by omega)
    unfold mb; omega
  have q2 : mkL2 (ptS L) (bf (ptS L) 12) = L.mks := by
    rw [b12]
    refine list_of _ _ _ (by omega) (fun i hi => ?_)
    rw [bm i (by omega)]
    have := m i (by omega)
    unfold mb; omega
  unfold prs
  rw [hep, q1, q2, b12, b13]
  cases L
  simp only [LB.mk.injEq, and_true]
  simp only at n1 s1
  omega
theorem pt_pfx {L : LB} (h : GL L) : (ptS L).extract 0 4 = pfx := by
  apply bs_ext
  · rw [extract_size _ _ _ (by rw [ptS_size]; omega)]; rfl
  · intro i hi
    rw [extract_size _ _ _ (by rw [ptS_size]; omega)] at hi
    rw [bAt_extract _ _ _ _ (by rw [ptS_size]; omega) (by omega)]
    have := ptS_at h (0 + i) (by omega)
    unfold bf at this
    rw [this]
    have hh : i = 0 ∨ i = 1 ∨ i = 2 ∨ i = 3 := by omega
    rcases hh with rfl | rfl | rfl | rfl <;> rfl
theorem pt_sum {L : LB} (h : GL L) : smE (ptS L) := by
  unfold smE
  rw [sm_pt h, nmN_congr (g := be (smN (pb L) 46) 4) 4 (fun i hi => by
    rw [ptS_at h _ (by omega)]
    unfold sb
    rw [if_neg (by omega), if_pos (by omega)]
    congr 1; omega), nmN_be_all _ _ (by
      have h1 := smN_lt (pb L) (pb_lt h) 46
      have : (256 : Nat) ^ 4 = 4294967296 := by decide +kernel
      omega)]
theorem gt_pt {L : LB} (h : lg L = true) : gtE (ptS L) = 0 ∧ gtL (ptS L) = L := by
  have hg := lg_gl h
  have h1 : gtE (ptS L) = 0 := gtE_ok (ptS_size L) (pt_pfx hg) (pt_sum hg) ⟨by rw [prs_pt hg]; exact h, by rw [prs_pt hg]⟩
  exact ⟨h1, by rw [gtL_ok h1, prs_pt hg]⟩

/-! ### a byte that is another one -/
def on1 (j y i : Nat) : Nat := if i = j then y else 0
theorem rg_on1 (j y : Nat) : ∀ n, rgS (on1 j y) 0 n = if j < n then tI y (8 * (n - j)) else 0
  | 0 => by simp [rgS]
  | n + 1 => by
    simp only [rgS]
    rw [rg_on1 j y n]
    by_cases h1 : j < n
    · have h0 : on1 j y n = 0 := by unfold on1; rw [if_neg (by omega)]
      rw [if_pos h1, if_pos (by omega), h0, Nat.xor_zero, ← tI_add]
      congr 1; omega
    · rw [if_neg h1, Nat.zero_xor]
      by_cases h2 : j = n
      · have h0 : on1 j y n = y := by unfold on1; rw [if_pos h2.symm]
        rw [if_pos (by omega), h0]
        congr 1; omega
      · have h0 : on1 j y n = 0 := by unfold on1; rw [if_neg (by omega)]
        rw [if_neg (by omega), h0]
        exact tI_nought 8
theorem sm_on1 (f g : Nat → Nat) (j n : Nat) (hj : j < n) (hf : f j < 256) (hg : g j < 256) (h : ∀ i, i < n → i ≠ j → f i = g i) (he : smN f n = smN g n) : f j = g j := by
  have hy : f j ^^^ g j < 4294967296 := xor32 _ _ (by omega) (by omega)
  have h1 : rgS f (nt 0) n = rgS g (nt 0) n ^^^ tI (f j ^^^ g j) (8 * (n - j)) := by
    have := rgS_lin g (on1 j (f j ^^^ g j)) (nt 0) 0 n
    rw [rg_on1, if_pos hj, Nat.xor_zero] at this
    rw [← this]
    refine rgS_congr _ _ (fun i hi => ?_)
    unfold on1
    by_cases hij : i = j
    · rw [if_pos hij, hij, Nat.xor_comm (f j), xor_back]
    · rw [if_neg hij, Nat.xor_zero]; exact h i hi hij
  have h2 : rgS f (nt 0) n = rgS g (nt 0) n := nt_inj he
  rw [h2] at h1
  have h3 := congrArg (fun z => rgS g (nt 0) n ^^^ z) h1
  simp only [← Nat.xor_assoc, Nat.xor_self, Nat.zero_xor] at h3
  have h4 := tI_none _ hy _ h3.symm
  have h5 := congrArg (fun z => f j ^^^ z) h4
  simp only [xor_back, Nat.xor_zero] at h5
  exact h5.symm
theorem be_inj {x y m : Nat} (hx : x < 256 ^ m) (hy : y < 256 ^ m) (h : ∀ i, i < m → be x m i = be y m i) : x = y := by
  rw [← nmN_be_all x m hx, ← nmN_be_all y m hy]
  exact nmN_congr m h
/-- two sectors of good labels that part in one byte at most are one. -/
theorem pt_one {L M : LB} (hL : GL L) (hM : GL M) (j : Nat) (hj : j < 64) (h : ∀ i, i < 64 → i ≠ j → sb L i = sb M i) : sb L j = sb M j := by
  have e4 : (256 : Nat) ^ 4 = 4294967296 := by decide +kernel
  have sl := smN_lt (pb L) (pb_lt hL) 46
  have sm := smN_lt (pb M) (pb_lt hM) 46
  by_cases h1 : j < 46
  · have hs : smN (pb L) 46 = smN (pb M) 46 := be_inj (m := 4) (by omega) (by omega) (fun i hi => by
      have := h (46 + i) (by omega) (by omega)
      unfold sb at this
      rw [if_neg (by omega), if_pos (by omega), if_neg (by omega), if_pos (by omega)] at this
      rw [show 46 + i - 46 = i by omega] at this
      exact this)
    have := sm_on1 (pb L) (pb M) j 46 h1 (pb_lt hL j) (pb_lt hM j) (fun i hi hne => by
      have := h i (by omega) hne
      unfold sb at this
      rw [if_pos hi, if_pos hi] at this
      exact this) hs
    unfold sb
    rw [if_pos h1, if_pos h1, this]
  · have hs : smN (pb L) 46 = smN (pb M) 46 := by
      unfold smN mrN
      rw [rgS_congr (g := pb M) _ _ (fun i hi => by
        have := h i (by omega) (by omega)
        unfold sb at this
        rw [if_pos hi, if_pos hi] at this
        exact this)]
    unfold sb
    rw [if_neg h1, if_neg h1, hs]
/-- a sector with one byte another one is none. -/
theorem gt_turned {L : LB} (h : lg L = true) (j x : Nat) (hj : j < 64) (hx : x < 256) : gtE (bs 64 (fun i => if i = j then x else sb L i)) = 0 ↔ x = sb L j := by
  have hg := lg_gl h
  constructor
  · intro h0
    obtain ⟨_, h1, h2⟩ := gtE_is h0
    have hg2 := lg_gl h1
    have hb : ∀ i, i < 64 → sb (prs (bs 64 (fun i => if i = j then x else sb L i))) i = if i = j then x else sb L i := fun i hi => by
      rw [← ptS_at hg2 i hi, h2]
      exact bAt_bs 64 _ i hi (by
        show (if i = j then x else sb L i) < 256
        split
        · exact hx
        · exact sb_lt hg i)
    have := pt_one hg2 hg j hj (fun i hi hne => by rw [hb i hi, if_neg hne])
    rw [hb j hj, if_pos rfl] at this
    exact this
  · intro hx2
    have : bs 64 (fun i => if i = j then x else sb L i) = ptS L := bs_congr fun i hi => by
      show (if i = j then x else sb L i) = sb L i
      split
      · rename_i e; rw [hx2, e]
      · rfl
    rw [this]
    exact (gt_pt h).1

/-! ### what is asked of a label -/
def wh (L : LB) (m t : Int) : Bool := lg L && decide (0 ≤ m ∧ m < L.n) && decide (0 ≤ t ∧ t < L.s) && (decide (L.sts.getD m.toNat 0 = 0) || (decide (L.sts.getD m.toNat 0 = 2) && decide (t < L.mks.getD m.toNat 0)))
def mc (l : List Int) : Nat := (l.filter (fun x => decide (x ≠ 0))).length
theorem mc_step (l : List Int) (k : Nat) (h : k < l.length) : mc (l.take (k + 1)) = mc (l.take k) + (if l.getD k 0 = 0 then 0 else 1) := by
  unfold mc
  rw [List.take_add_one, List.getElem?_eq_getElem h, List.filter_append, List.length_append, List.getD_eq_getElem?_getD, List.getElem?_eq_getElem h]
  by_cases h0 : l[k] = 0
  · simp [h0]
  · simp [h0]
theorem mc_le (l : List Int) : mc l ≤ l.length := List.length_filter_le _ _
def ms (L : LB) : Nat := if lg L = true then mc L.sts else 0
open Classical in
/-- the newest label of the first k sectors. -/
noncomputable def nwL (l : List ByteArray) : Nat → LB
  | 0 => noL
  | k + 1 => if gtE (l.getD k noS) = 0 ∧ (nwL l k).ep < (gtL (l.getD k noS)).ep then gtL (l.getD k noS) else nwL l k
open Classical in
noncomputable def nwF (l : List ByteArray) : Nat → Bool
  | 0 => false
  | k + 1 => if gtE (l.getD k noS) = 0 ∧ (nwL l k).ep < (gtL (l.getD k noS)).ep then true else nwF l k
theorem nw_none (l : List ByteArray) : ∀ k, nwF l k = false → nwL l k = noL
  | 0, _ => rfl
  | k + 1, h => by
    simp only [nwF] at h
    simp only [nwL]
    split at h
    · cases h
    · rename_i h1
      rw [if_neg h1]
      exact nw_none l k h
theorem nw_no {l : List ByteArray} {k : Nat} (h : ¬ (gtE (l.getD k noS) = 0 ∧ (nwL l k).ep < (gtL (l.getD k noS)).ep)) : nwL l (k + 1) = nwL l k ∧ nwF l (k + 1) = nwF l k := by
  simp only [nwL, nwF]
  rw [if_neg h, if_neg h]; exact ⟨rfl, rfl⟩
theorem nw_yes {l : List ByteArray} {k : Nat} (h : gtE (l.getD k noS) = 0 ∧ (nwL l k).ep < (gtL (l.getD k noS)).ep) : nwL l (k + 1) = gtL (l.getD k noS) ∧ nwF l (k + 1) = true := by
  simp only [nwL, nwF]
  rw [if_pos h, if_pos h]; exact ⟨rfl, rfl⟩

end Go.Proofs.Ytobpgfnmhpgkeaa
